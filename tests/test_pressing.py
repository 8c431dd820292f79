import unittest

from foretell.errors import NoPress
from foretell.numbers import ONE, is_sign, is_whole
from foretell.pressing import pressed, read, read_first
from foretell.seekers import Seeker
from foretell.telling import foretold
from tests.helper import (
    LEARNED, LOOKS, SOME_LOOKS, TEXTS, Touchy, assert_refused, cases, mixed_signs, narrowed, no_bytes, no_learned,
    no_looks, no_mosts, no_texts, numbers_from, product_given, taught,
)

EVEN = [("even", ())]
BEHIND = [("even", (1,))]
READINGS = (read, read_first)

# What may stand behind a text's own bytes, but for another text's.
TAILS = [[0], [0] * 9, [255], [255] * 9, [0, 255, 7], [128], mixed_signs(8, 20)]


def few_cases():
    """One or two texts and learned texts for each of the looks."""
    rows = [(looks, TEXTS[k], LEARNED[-k]) for k, looks in enumerate(SOME_LOOKS)]
    return rows + [(looks, mixed_signs(9, 12), [[97, 98], [0, 255]]) for looks in SOME_LOOKS]


def exchanged(data):
    """Each byte exchanged for some others."""
    for place, byte in enumerate(data):
        for other in sorted({(byte + 1) % 256, (byte - 1) % 256, byte ^ 128, 255 - byte, 0, 255} - {byte}):
            yield data[:place] + [other] + data[place + 1:]


def put_in(data):
    """A byte put in at each place."""
    for place in range(len(data) + 1):
        for byte in (0, 1, 127, 128, 255):
            yield data[:place] + [byte] + data[place:]


class TestPressed(unittest.TestCase):
    def test_by_hand(self):
        # A 0 of a half: the upper half of the span.
        self.assertEqual(pressed(EVEN, []), [128])
        # A 0 of three quarters, of five sixths: the first byte that is all within.
        self.assertEqual(pressed(EVEN, [], [[]]), [64])
        self.assertEqual(pressed(EVEN, [], [[], []]), [43])
        # Nine 1s and a 0, each of a half: just the second of 1024 parts.
        self.assertEqual(pressed(BEHIND, [255]), [0, 64])
        # A 1, eight 0s and a 0, each of a half: the last part of the lower half.
        self.assertEqual(pressed(BEHIND, [0]), [127, 192])
        # The 0 at the end is of a quarter, as a 1 was seen: three quarters go ahead of it.
        self.assertEqual(pressed(EVEN, [255]), [0, 96])

    def test_is_what_a_span_tells_that_is_narrowed_by_what_is_foretold(self):
        for looks, text, learned in cases():
            with self.subTest(looks=looks, text=text, learned=learned):
                data = pressed(looks, text, learned)
                self.assertEqual(data, narrowed(foretold(looks, text, learned)).told())
                self.assertTrue(type(data) is list and all(is_sign(byte) for byte in data))

    def test_pressed_again_it_is_the_same(self):
        for looks, text, learned in few_cases():
            self.assertEqual(pressed(looks, text, learned), pressed(looks, text, learned))

    def test_nothing_learned(self):
        for looks in SOME_LOOKS:
            for text in TEXTS:
                bare = pressed(looks, text)
                self.assertEqual(pressed(looks, text, None), bare)
                self.assertEqual(pressed(looks, text, []), bare)
                self.assertEqual(pressed(looks, text, learned=None), bare)
        self.assertNotEqual(pressed(EVEN, [], [[]]), pressed(EVEN, []))

    def test_what_was_learned_takes_fewer_bytes(self):
        text = mixed_signs(5, 60)
        for looks in (LOOKS, [("even", (1, 2))]):
            self.assertLess(2 * len(pressed(looks, text, [text] * 3)), len(pressed(looks, text)))

    def test_by_looks_and_learned_texts_it_is_another(self):
        text = mixed_signs(5, 30)
        rows = [pressed(looks, text, learned) for looks in SOME_LOOKS for learned in ([], [text], [text, [7]])]
        self.assertEqual(len({tuple(data) for data in rows}), len(rows))


class TestRead(unittest.TestCase):
    def test_what_is_pressed_is_read(self):
        for looks, text, learned in cases():
            with self.subTest(looks=looks, text=text, learned=learned):
                self.assert_read(looks, text, learned)

    def assert_read(self, looks, text, learned):
        data = pressed(looks, text, learned)
        told = read(looks, data, len(text), learned)
        self.assertEqual(told, text)
        self.assertTrue(type(told) is list and all(is_sign(sign) for sign in told))
        first = read_first(looks, data, len(text), learned)
        self.assertEqual(first, (text, len(data)))
        self.assertTrue(type(first) is tuple and type(first[0]) is list and is_whole(first[1]))

    def test_with_most_left_out(self):
        for looks, text, learned in few_cases():
            data = pressed(looks, text, learned)
            self.assertEqual(read(looks, data, learned=learned), text)
            self.assertEqual(read(looks, data, 1000, learned), text)
            self.assertEqual(read_first(looks, data, learned=learned), (text, len(data)))
            bare = pressed(looks, text)
            self.assertEqual(read(looks, bare), text)
            self.assertEqual(read_first(looks, bare), (text, len(bare)))

    def test_none_and_the_list_of_none_and_nothing_learned(self):
        for looks in SOME_LOOKS:
            data = pressed(looks, [97, 98, 97])
            for told in (read(looks, data), read(looks, data, 3, None), read(looks, data, 3, [])):
                self.assertEqual(told, [97, 98, 97])
            for told in (read_first(looks, data), read_first(looks, data, 3, None), read_first(looks, data, 3, [])):
                self.assertEqual(told, ([97, 98, 97], len(data)))

    def test_is_what_a_seeker_tells(self):
        for looks, text, learned in few_cases():
            data = pressed(looks, text, learned)
            foreteller, seeker = taught(looks, learned), Seeker(data)
            bits = []
            for _ in range(9 * len(text) + 1):
                bits.append(seeker.bit(foreteller.chance()))
                foreteller.see(bits[-1])
            self.assertEqual([bit for _, bit in foretold(looks, text, learned)], bits)
            self.assertEqual(seeker.told(), data)

    def test_the_longest_texts(self):
        for text in ([255] * 1000, mixed_signs(3, 1000)):
            data = pressed(LOOKS[:2], text, [text[:100]])
            self.assertEqual(read(LOOKS[:2], data, learned=[text[:100]]), text)
            assert_refused(self, "NoPress", lambda: read(LOOKS[:2], data, 999, [text[:100]]))

    def test_a_text_that_was_never_foretold(self):
        # As good as sure that the signs are 0, and they are 255: as many bytes as there may be, or nearly.
        looks, learned, text = [("run", (1,))], [[0] * 1000], [255, 254] * 20
        data = pressed(looks, text, learned)
        self.assertEqual(read(looks, data, 40, learned), text)
        self.assertEqual(read_first(looks, data + [0] * (12000 - len(data)), 40, learned), (text, len(data)))


class TestReadFirst(unittest.TestCase):
    def test_whatever_stands_behind(self):
        for looks, text, learned in cases()[::11]:
            data = pressed(looks, text, learned)
            for tail in TAILS + [pressed(looks, [98, 97]), data]:
                self.assertEqual(read_first(looks, data + tail, len(text), learned), (text, len(data)))
                self.assertEqual(read_first(looks, data + tail, learned=learned), (text, len(data)))

    def test_each_byte_behind(self):
        for looks in (EVEN, LOOKS):
            for text in ([], [97, 98]):
                data = pressed(looks, text)
                for byte in range(256):
                    self.assertEqual(read_first(looks, data + [byte], len(text)), (text, len(data)))
                    assert_refused(self, "NoPress", lambda: read(looks, data + [byte], len(text)))

    def test_one_text_behind_the_other(self):
        for looks in SOME_LOOKS:
            row = sum([pressed(looks, text) for text in TEXTS], [])
            for text in TEXTS:
                told, own = read_first(looks, row)
                self.assertEqual(told, text)
                row = row[own:]
            self.assertEqual(row, [])

    def test_as_many_bytes_as_there_may_be(self):
        data = pressed(LOOKS, [97, 98])
        for byte in (0, 255):
            full = data + [byte] * (12000 - len(data))
            self.assertEqual(read_first(LOOKS, full), ([97, 98], len(data)))
            assert_refused(self, "NoPress", lambda: read(LOOKS, full))
            for reading in READINGS:
                assert_refused(self, "NoBytes", lambda: reading(LOOKS, full + [byte]))


class TestNoPress(unittest.TestCase):
    def assert_read_or_refused(self, looks, data, most, learned):
        """Of bytes that are read just these are pressed of the text told; else both readings tell what they must."""
        try:
            text = read(looks, data, most, learned)
        except NoPress:
            self.assert_no_whole_text(looks, data, most, learned)
            return False
        self.assertLessEqual(len(text), most)
        self.assertEqual(pressed(looks, text, learned), data)
        self.assertEqual(read_first(looks, data, most, learned), (text, len(data)))
        return True

    def assert_no_whole_text(self, looks, data, most, learned):
        try:
            text, own = read_first(looks, data, most, learned)
        except NoPress:
            return
        self.assertLess(own, len(data))
        self.assertLessEqual(len(text), most)
        self.assertEqual(pressed(looks, text, learned), data[:own])

    def test_a_sign_more_than_most(self):
        for looks, text, learned in cases()[::5]:
            if text:
                data = pressed(looks, text, learned)
                for reading in READINGS:
                    for most in sorted({len(text) - 1, 0}):
                        assert_refused(self, "NoPress", lambda: reading(looks, data, most, learned))
                        assert_refused(self, "NoPress", lambda: reading(looks, data + [0], most, learned))

    def test_most_nought(self):
        for looks in SOME_LOOKS:
            self.assertEqual(read(looks, pressed(looks, []), 0), [])
            self.assertEqual(read_first(looks, pressed(looks, []) + [5], 0), ([], len(pressed(looks, []))))
            for reading in READINGS:
                assert_refused(self, "NoPress", lambda: reading(looks, pressed(looks, [0]), 0))

    def test_bytes_lacking_at_the_end(self):
        for looks, text, learned in few_cases():
            data = pressed(looks, text, learned)
            for many in range(len(data)):
                for reading in READINGS:
                    assert_refused(self, "NoPress", lambda: reading(looks, data[:many], len(text), learned))

    def test_a_nought_lacking_at_the_end(self):
        # Behind the bytes the seeker finds noughts, so the bits are all as they were.
        found = [sign for sign in range(256) if pressed(EVEN, [sign, 7])[-1] == 0]
        self.assertTrue(found)
        for sign in found:
            data = pressed(EVEN, [sign, 7])
            for reading in READINGS:
                assert_refused(self, "NoPress", lambda: reading(EVEN, data[:-1]))

    def test_no_bytes_at_all(self):
        for looks in SOME_LOOKS:
            for reading in READINGS:
                for most in (0, 3, 1000):
                    assert_refused(self, "NoPress", lambda: reading(looks, [], most))

    def test_bytes_behind(self):
        for looks, text, learned in few_cases():
            data = pressed(looks, text, learned)
            for tail in TAILS + [data]:
                assert_refused(self, "NoPress", lambda: read(looks, data + tail, len(text), learned))
                assert_refused(self, "NoPress", lambda: read(looks, data + tail, 1000, learned))

    def test_one_exchanged(self):
        refused = 0
        for looks, text, learned in few_cases():
            for data in exchanged(pressed(looks, text, learned)):
                taken = self.assert_read_or_refused(looks, data, len(text) + 1, learned)
                refused += not taken
                if taken:
                    self.assertNotEqual(read(looks, data, learned=learned), text)
        self.assertGreater(refused, 100)

    def test_one_put_in(self):
        for looks, text, learned in few_cases():
            for data in put_in(pressed(looks, text, learned)):
                self.assert_read_or_refused(looks, data, len(text) + 1, learned)

    def test_of_just_those_that_are_pressed(self):
        # All texts of at most one sign: so each row of bytes is one of theirs, or is refused.
        learned = [[0], [255], [], [0, 0, 255]]
        for looks in (EVEN, BEHIND, [("run", ()), ("quick", (1,))]):
            texts = {tuple(pressed(looks, text, learned)): text for text in [[]] + [[sign] for sign in range(256)]}
            self.assertEqual(len(texts), 257)
            numbers = numbers_from(5)
            rows = set(texts) | {()} | {(byte,) for byte in range(256)}
            rows |= {(next(numbers) % 256, next(numbers) % 256) for _ in range(500)}
            rows |= {data[:-1] + ((data[-1] + step) % 256,) for data in texts for step in (1, 255)}
            for row in sorted(rows):
                if row in texts:
                    self.assertEqual(read(looks, list(row), 1, learned), texts[row])
                else:
                    assert_refused(self, "NoPress", lambda: read(looks, list(row), 1, learned))

    def test_any_bytes(self):
        for seed, looks in enumerate(SOME_LOOKS):
            numbers = numbers_from(seed)
            for many in (0, 1, 1, 2, 2, 3, 3, 5, 8, 13):
                data = [next(numbers) % 256 for _ in range(many)]
                self.assert_read_or_refused(looks, data, 12, [[97]])

    def test_other_looks_or_learned_texts(self):
        data = pressed(LOOKS, mixed_signs(9, 12), [[97, 98]])
        self.assert_read_or_refused(EVEN, data, 20, [[97, 98]])
        self.assert_read_or_refused(LOOKS, data, 20, [[97, 98], []])
        self.assert_read_or_refused(LOOKS, data, 20, [])


class TestPromise(unittest.TestCase):
    """Point 4: at most 10 bits more than was foretold, and no text's bytes begin with another one's."""

    def assert_short(self, looks, text, learned):
        steps = foretold(looks, text, learned)
        data = pressed(looks, text, learned)
        product = product_given([chance for chance, _ in steps], [bit for _, bit in steps])
        self.assertLess(256 ** len(data) * product, 1024 * ONE ** len(steps))
        self.assertLessEqual(len(data), 12000)

    def test_at_most_ten_bits_more(self):
        for looks, text, learned in cases():
            with self.subTest(looks=looks, text=text, learned=learned):
                self.assert_short(looks, text, learned)

    def test_of_long_texts(self):
        for text in ([0] * 1000, [255] * 1000, mixed_signs(3, 1000)):
            self.assert_short(LOOKS[:2], text, [[255] * 300])

    def test_of_texts_that_were_never_foretold(self):
        for text in ([255] * 50, [255, 254] * 20, [128] * 9, []):
            for kind in ("even", "quick", "run"):
                self.assert_short([(kind, (1,))], text, [[0] * 500])
                self.assert_short([(kind, ())], text, [[0] * 500])

    def assert_none_begins_with_another(self, rows):
        # In order, whatever begins with a row follows straight behind it.
        ordered = sorted(rows)
        for first, second in zip(ordered, ordered[1:]):
            self.assertNotEqual(second[:len(first)], first)

    def test_no_texts_bytes_begin_with_another_ones(self):
        text = mixed_signs(7, 12)
        texts = [text[:many] for many in range(13)]
        texts += [text[:place] + [sign] + text[place + 1:] for place in range(12) for sign in (1, 2, 254)]
        texts += [[sign] for sign in range(256)] + [[0] * many for many in range(2, 20)]
        texts += [[255] * many for many in range(2, 20)] + [[97, sign] for sign in range(256)]
        texts = [list(text) for text in sorted({tuple(text) for text in texts})]
        for looks in (EVEN, LOOKS[:2], [("run", ())]):
            for learned in ([], [text, [0] * 20, [97, 98]]):
                self.assert_none_begins_with_another([pressed(looks, text, learned) for text in texts])

    def test_texts_alike_have_the_same(self):
        for looks in SOME_LOOKS:
            self.assertEqual(pressed(looks, [97, 98], [[97]]), pressed(looks, [97, 98][:], [[97][:]]))


class TestOwnLists(unittest.TestCase):
    def test_what_is_handed_in_stays(self):
        looks, text, learned = list(LOOKS), [97, 98, 97], [[97, 98], [], [97]]
        data = pressed(looks, text, learned)
        self.assertEqual((looks, text, learned), (LOOKS, [97, 98, 97], [[97, 98], [], [97]]))
        kept = list(data)
        for reading in READINGS:
            reading(looks, data, 3, learned)
            self.assertEqual((looks, data, learned), (LOOKS, kept, [[97, 98], [], [97]]))
            assert_refused(self, "NoPress", lambda: reading(looks, data, 2, learned))
            self.assertEqual((looks, data, learned), (LOOKS, kept, [[97, 98], [], [97]]))

    def test_what_is_told_may_be_changed(self):
        learned = [[97, 98], [97]]
        data = pressed(LOOKS, [97, 98, 97], learned)
        kept = list(data)
        text, first = read(LOOKS, data, 3, learned), read_first(LOOKS, data, 3, learned)
        data.clear()
        learned[0].append(5)
        self.assertEqual((text, first), ([97, 98, 97], ([97, 98, 97], len(kept))))
        text.append(9)
        first[0].clear()
        self.assertEqual(pressed(LOOKS, [97, 98, 97], [[97, 98], [97]]), kept)
        self.assertEqual(read(LOOKS, kept, 3, [[97, 98], [97]]), [97, 98, 97])
        self.assertEqual(read_first(LOOKS, kept, 3, [[97, 98], [97]]), ([97, 98, 97], len(kept)))

    def test_the_text_may_be_one_of_the_learned(self):
        text = [97, 98, 97]
        data = pressed(LOOKS, text, [text, text])
        self.assertEqual(data, pressed(LOOKS, [97, 98, 97], [[97, 98, 97], [97, 98, 97]]))
        self.assertEqual(read(LOOKS, data, 3, [text, text]), text)
        self.assertEqual(text, [97, 98, 97])
        # Bytes are a list of signs, and so may be a learned text themselves.
        self.assertEqual(read(LOOKS, pressed(LOOKS, text, [data]), 3, [data]), text)

    def test_nothing_is_kept_from_one_to_the_next(self):
        data = pressed(LOOKS, [97, 98, 97], [[97]])
        pressed(LOOKS, [97, 98] * 9, [[97, 98] * 5])
        assert_refused(self, "NoPress", lambda: read(LOOKS, data + [0], 3, [[97]]))
        assert_refused(self, "NoText", lambda: pressed(LOOKS, [97], [[97], [256]]))
        self.assertEqual(pressed(LOOKS, [97, 98, 97], [[97]]), data)
        self.assertEqual(read(LOOKS, data, 3, [[97]]), [97, 98, 97])


class TestRefusals(unittest.TestCase):
    def test_no_looks(self):
        data = pressed(BEHIND, [1])
        for thing in no_looks():
            assert_refused(self, "NoLooks", lambda: pressed(thing, [1], [[1]]))
            for reading in READINGS:
                assert_refused(self, "NoLooks", lambda: reading(thing, data))

    def test_no_text(self):
        for thing in no_texts():
            assert_refused(self, "NoText", lambda: pressed(BEHIND, thing))
            assert_refused(self, "NoText", lambda: pressed(BEHIND, thing, [[1]]))

    def test_no_bytes(self):
        for thing in no_bytes():
            for reading in READINGS:
                assert_refused(self, "NoBytes", lambda: reading(BEHIND, thing))

    def test_no_most(self):
        data = pressed(BEHIND, [1])
        for thing in no_mosts():
            for reading in READINGS:
                assert_refused(self, "NoMost", lambda: reading(BEHIND, data, thing))
                assert_refused(self, "NoMost", lambda: reading(BEHIND, data, most=thing, learned=[[256]]))

    def test_most_from_0_to_1000(self):
        data = pressed(BEHIND, [])
        for most in (0, 1, 999, 1000):
            self.assertEqual(read(BEHIND, data, most), [])
            self.assertEqual(read_first(BEHIND, data, most), ([], 1))

    def test_no_learned_texts(self):
        data = pressed(BEHIND, [1])
        for thing in no_learned():
            assert_refused(self, "NoText", lambda: pressed(BEHIND, [1], thing))
            for reading in READINGS:
                assert_refused(self, "NoText", lambda: reading(BEHIND, data, 1, thing))

    def test_a_text_of_1000_signs_and_of_one_more(self):
        self.assertEqual(read(EVEN, pressed(EVEN, [7] * 1000)), [7] * 1000)
        assert_refused(self, "NoText", lambda: pressed(EVEN, [7] * 1001))
        assert_refused(self, "NoText", lambda: pressed(EVEN, [7], [[7] * 1001]))
        assert_refused(self, "NoText", lambda: read(EVEN, [128], 1000, [[7] * 1001]))

    def test_in_the_order_of_the_arguments(self):
        bad_looks, bad_lists = (None, [], Touchy()), (None, [256], Touchy())
        bad_mosts = (None, -1, 1001, True, Touchy())
        learned_texts = (None, [[1]], [[256]], 5, Touchy())
        for looks in bad_looks:
            for text in ([1], *bad_lists):
                for learned in learned_texts:
                    assert_refused(self, "NoLooks", lambda: pressed(looks, text, learned))
        for learned in learned_texts:
            for reading in READINGS:
                for looks in bad_looks:
                    for data in ([128], [], *bad_lists):
                        for most in (0, *bad_mosts):
                            assert_refused(self, "NoLooks", lambda: reading(looks, data, most, learned))
                for data in bad_lists:
                    for most in (0, *bad_mosts):
                        assert_refused(self, "NoBytes", lambda: reading(BEHIND, data, most, learned))
                for most in bad_mosts:
                    for data in ([128], [], [1, 2, 3]):
                        assert_refused(self, "NoMost", lambda: reading(BEHIND, data, most, learned))

    def test_learned_texts_ahead_of_no_press(self):
        for reading in READINGS:
            for data in ([], [0], [1, 2, 3]):
                assert_refused(self, "NoPress", lambda: reading(BEHIND, data, 0))
                for learned in ([[256]], 5, Touchy(), [None]):
                    assert_refused(self, "NoText", lambda: reading(BEHIND, data, 0, learned))


if __name__ == "__main__":
    unittest.main()
