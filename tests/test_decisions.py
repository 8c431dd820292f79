import unittest

from foretell.decisions import decisions_of, nodes_of, signs_of
from foretell.numbers import is_bit, is_sign, is_whole
from tests.helper import assert_refused, bad_lists, mixed_signs, no_lists, no_numbers


def plain_bits(signs):
    """Point 8's own words, of however many signs."""
    return [int(figure) for sign in signs for figure in f"1{sign:08b}"] + [0]


def plain_nodes(signs):
    """The node of a bit is a 1 and the bits ahead of it, read as a number of twos."""
    nodes = []
    for sign in signs:
        figures = f"{sign:08b}"
        nodes.append(0)
        nodes.extend(int("1" + figures[:many], 2) for many in range(8))
    return nodes + [0]


def texts():
    rows = [[sign] for sign in range(256)]
    rows.extend([[], [0, 0], [0, 255], [255, 0], [255, 255], [127, 128], [97, 98, 97, 98, 97], list(range(256))])
    rows.extend(mixed_signs(seed, many) for seed, many in ((1, 3), (2, 50), (3, 999), (4, 1000)))
    rows.extend([[0] * 1000, [255] * 1000, [97] * 1000])
    return rows


class TestDecisions(unittest.TestCase):
    def test_by_hand(self):
        self.assertEqual(decisions_of([]), [0])
        self.assertEqual(decisions_of([0]), [1, 0, 0, 0, 0, 0, 0, 0, 0, 0])
        self.assertEqual(decisions_of([255]), [1, 1, 1, 1, 1, 1, 1, 1, 1, 0])
        self.assertEqual(decisions_of([128, 1]), [1, 1, 0, 0, 0, 0, 0, 0, 0, 1, 0, 0, 0, 0, 0, 0, 0, 1, 0])
        self.assertEqual(decisions_of([97]), [1, 0, 1, 1, 0, 0, 0, 0, 1, 0])

    def test_nodes_by_hand(self):
        self.assertEqual(nodes_of([]), [0])
        self.assertEqual(nodes_of([0]), [0, 1, 2, 4, 8, 16, 32, 64, 128, 0])
        self.assertEqual(nodes_of([255]), [0, 1, 3, 7, 15, 31, 63, 127, 255, 0])
        self.assertEqual(nodes_of([97, 0]), [0, 1, 2, 5, 11, 22, 44, 88, 176, 0, 1, 2, 4, 8, 16, 32, 64, 128, 0])

    def test_of_many_texts(self):
        for text in texts():
            bits, nodes = decisions_of(text), nodes_of(text)
            self.assertEqual(bits, plain_bits(text))
            self.assertEqual(nodes, plain_nodes(text))
            self.assertEqual(len(bits), 9 * len(text) + 1)
            self.assertTrue(type(bits) is type(nodes) is list)
            self.assertTrue(all(is_bit(bit) for bit in bits))
            self.assertTrue(all(is_whole(node) for node in nodes))

    def test_no_text(self):
        for thing in no_lists() + bad_lists(1000):
            assert_refused(self, "NoText", lambda: decisions_of(thing))
            assert_refused(self, "NoText", lambda: nodes_of(thing))

    def test_lists_handed_in_stay_and_lists_told_are_new(self):
        for told_of in (decisions_of, nodes_of):
            for text in ([], [1, 2, 255]):
                kept = list(text)
                first = told_of(text)
                again = told_of(text)
                self.assertEqual(text, kept)
                self.assertIsNot(first, again)
                copied = list(again)
                first.append(9)
                first[0] = 9
                self.assertEqual((again, told_of(text)), (copied, copied))
                text.append(7)
                self.assertEqual(again, copied)
                self.assertEqual(len(told_of(text)), len(copied) + 9)


class TestSigns(unittest.TestCase):
    def assert_none(self, thing):
        self.assertIsNone(signs_of(thing))

    def test_the_text_again(self):
        for text in texts():
            told = signs_of(decisions_of(text))
            self.assertEqual(told, text)
            self.assertIs(type(told), list)
            self.assertTrue(all(is_sign(sign) for sign in told))
            self.assertEqual(signs_of(plain_bits(text)), text)

    def test_a_bit_exchanged(self):
        for text in ([], [0], [255], [97, 98], mixed_signs(5, 12)):
            bits = decisions_of(text)
            for place in range(len(bits)):
                changed = list(bits)
                changed[place] = 1 - changed[place]
                if place % 9 == 0:
                    self.assert_none(changed)
                else:
                    other = list(text)
                    other[place // 9] ^= 128 >> place % 9 - 1
                    self.assertEqual(signs_of(changed), other)

    def test_a_bit_left_out_or_put_in(self):
        for text in ([], [0], [255], [97, 98], [255, 255, 255], mixed_signs(6, 12)):
            bits = decisions_of(text)
            for place in range(len(bits)):
                self.assert_none(bits[:place] + bits[place + 1:])
            for place in range(len(bits) + 1):
                for bit in (0, 1):
                    self.assert_none(bits[:place] + [bit] + bits[place:])

    def test_cut_short_or_with_more_behind(self):
        bits = decisions_of([97, 255, 0])
        for many in range(len(bits)):
            self.assert_none(bits[:many])
        for behind in ([0], [1], [0] * 9, [1] * 9, decisions_of([]), decisions_of([97])):
            self.assert_none(bits + behind)

    def test_other_things_in_the_place_of_a_bit(self):
        bits = decisions_of([97, 255, 0])
        for place in range(len(bits)):
            for thing in [2, -1, 256, 2 ** 70, 2 ** 20000] + no_numbers():
                self.assert_none(bits[:place] + [thing] + bits[place + 1:])
            self.assert_none(bits[:place] + [bits[place] == 1] + bits[place + 1:])

    def test_no_decisions(self):
        self.assert_none([])
        self.assert_none([1])
        self.assert_none([0, 0])
        self.assert_none([[0]])
        self.assert_none(tuple(decisions_of([97])))
        self.assert_none([0] * 10)
        self.assert_none([1] * 10)
        self.assert_none([0] * 100000)
        for thing in no_lists():
            self.assert_none(thing)

    def test_of_more_than_1000_signs(self):
        self.assertEqual(signs_of(plain_bits([65] * 1000)), [65] * 1000)
        for many in (1001, 1002, 2000):
            for sign in (0, 65, 255):
                self.assert_none(plain_bits([sign] * many))

    def test_lists_handed_in_stay_and_lists_told_are_new(self):
        for text in ([], [5, 6]):
            bits = decisions_of(text)
            kept = list(bits)
            first, again = signs_of(bits), signs_of(bits)
            self.assertEqual(bits, kept)
            self.assertIsNot(first, again)
            first.append(300)
            bits.clear()
            self.assertEqual(again, text)
            self.assertEqual(signs_of(kept), text)
        wrong = [1, 2, None]
        self.assert_none(wrong)
        self.assertEqual(wrong, [1, 2, None])


if __name__ == "__main__":
    unittest.main()
