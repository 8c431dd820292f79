import unittest

from foretell.numbers import (
    LEAST, ONE, checked_bytes, checked_text, gives, is_bit, is_chance, is_sign, is_whole,
)
from tests.helper import assert_refused, no_bits, no_chances, no_lists, no_numbers

GREAT = [2 ** 31, 2 ** 32, 2 ** 63, 2 ** 64, 2 ** 70, 10 ** 30, 2 ** 20000]
BELOW = [-1, -2, -255, -256, -LEAST, -ONE // 2, -2 ** 31, -2 ** 64, -2 ** 20000]


class TestKinds(unittest.TestCase):
    def assert_answers(self, asked, good, bad):
        # Truths alone are told: not 1 for True, nor None for False.
        for number in good:
            self.assertIs(asked(number), True)
        for thing in bad:
            self.assertIs(asked(thing), False)

    def test_one_and_least(self):
        self.assertEqual((ONE, LEAST), (2 ** 24, 2 ** 15))
        self.assertIs(is_whole(ONE), True)
        self.assertIs(is_whole(LEAST), True)

    def test_is_whole(self):
        good = [0, 1, 2, 7, 255, 256, LEAST, ONE] + GREAT + BELOW
        self.assert_answers(is_whole, good, no_numbers())

    def test_is_bit(self):
        bad = [-1, 2, 3, 255, LEAST, ONE // 2] + GREAT + BELOW
        self.assert_answers(is_bit, [0, 1], bad + no_numbers())

    def test_is_chance(self):
        good = [LEAST, LEAST + 1, 100000, ONE // 2 - 1, ONE // 2, ONE // 2 + 1, ONE - LEAST - 1, ONE - LEAST]
        bad = [0, 1, 255, LEAST - 1, ONE - LEAST + 1, ONE - 1, ONE, ONE + 1] + GREAT + BELOW
        self.assert_answers(is_chance, good, bad + no_numbers())

    def test_is_sign(self):
        bad = [-1, 256, 257, LEAST] + GREAT + BELOW
        self.assert_answers(is_sign, list(range(256)), bad + no_numbers())


class CheckedLists:
    """What checked_text and checked_bytes have in common."""

    def refused(self, thing):
        assert_refused(self, self.refusal, lambda: self.checked(thing))

    def test_ordinary_and_edges(self):
        for many in self.taken_lengths:
            with self.subTest(many=many):
                row = [(7 * k + 3) % 256 for k in range(many)]
                self.assertEqual(self.checked(row), row)
                self.assertIs(type(self.checked(row)), list)
        self.assertEqual(self.checked(list(range(256))), list(range(256)))
        self.assertEqual(self.checked([]), [])

    def test_too_long(self):
        for many in self.refused_lengths:
            with self.subTest(many=many):
                self.refused([0] * many)
                self.refused([255] * many)

    def test_one_that_is_no_sign(self):
        for part in [256, -1, 2 ** 70, -2 ** 70, 2 ** 20000, LEAST] + no_numbers():
            for row in ([part], [part, 1, 2], [1, part, 2], [1, 2, part], [9] * 999 + [part]):
                self.refused(row)

    def test_no_list(self):
        for thing in no_lists():
            self.refused(thing)

    def test_what_is_refused_stays_and_is_taken_when_mended(self):
        for place in (0, 1, 2):
            row = [1, 2, 3]
            row[place] = 256
            kept = list(row)
            self.refused(row)
            self.assertEqual(row, kept)
            row[place] = 255
            self.assertEqual(self.checked(row), row)
        row = [5] * self.refused_lengths[0]
        self.refused(row)
        self.assertEqual(row, [5] * self.refused_lengths[0])
        row.pop()
        self.assertEqual(self.checked(row), row)

    def test_the_list_told_is_a_new_one(self):
        for row in ([], [1, 2, 3]):
            kept = list(row)
            told = self.checked(row)
            again = self.checked(row)
            self.assertIsNot(told, row)
            self.assertIsNot(told, again)
            self.assertEqual(row, kept)
            told.append(300)
            self.assertEqual((row, again), (kept, kept))
            row.append(4)
            self.assertEqual((told, again), (kept + [300], kept))
            self.assertEqual(self.checked(row), kept + [4])


class TestCheckedText(CheckedLists, unittest.TestCase):
    refusal = "NoText"
    taken_lengths = (0, 1, 2, 50, 999, 1000)
    refused_lengths = (1001, 1002, 12000, 12001)

    def checked(self, thing):
        return checked_text(thing)


class TestCheckedBytes(CheckedLists, unittest.TestCase):
    refusal = "NoBytes"
    taken_lengths = (0, 1, 2, 50, 1000, 1001, 11999, 12000)
    refused_lengths = (12001, 12002, 20000)

    def checked(self, thing):
        return checked_bytes(thing)


class TestGives(unittest.TestCase):
    chances = [LEAST, LEAST + 1, 100003, ONE // 2 - 1, ONE // 2, ONE // 2 + 1, ONE - LEAST - 1, ONE - LEAST]

    def test_what_a_chance_gives(self):
        for chance in self.chances:
            self.assertEqual(gives(chance, 1), chance)
            self.assertEqual(gives(chance, 0), 2 ** 24 - chance)

    def test_no_chance(self):
        for thing in no_chances():
            for bit in (0, 1):
                assert_refused(self, "NoChance", lambda: gives(thing, bit))

    def test_no_bit(self):
        for thing in no_bits():
            for chance in self.chances:
                assert_refused(self, "NoBit", lambda: gives(chance, thing))

    def test_no_chance_comes_ahead_of_no_bit(self):
        for thing in no_chances():
            for other in no_bits():
                assert_refused(self, "NoChance", lambda: gives(thing, other))


if __name__ == "__main__":
    unittest.main()
