import unittest

from foretell.numbers import LEAST, ONE, gives, is_sign, is_whole
from foretell.spans import Span
from tests.helper import (
    around_the_middle, assert_refused, likely_steps, mixed_steps, narrowed, no_bits, no_chances, number_of, plain_step,
    rows_of_steps,
)


def plainly_settled(ends):
    low, width, size = ends
    lowest = low.to_bytes(size, "big")
    highest = (low + width - 1).to_bytes(size, "big")
    many = 0
    while many < size and lowest[many] == highest[many]:
        many += 1
    return list(lowest[:many])


def plainly_told(ends):
    """Point 6's last sentence: each L from 0 on, and for it the least c that is not below low."""
    low, width, size = ends
    for many in range(size + 1):
        unit = 256 ** (size - many)
        c = low // unit
        while c * unit < low:
            c += 1
        if (c + 1) * unit <= low + width:
            return list(c.to_bytes(many, "big"))


class TestEnds(unittest.TestCase):
    def test_at_first(self):
        self.assertEqual(Span().ends(), (0, 2 ** 40, 5))

    def test_one_step(self):
        self.assertEqual(narrowed([(ONE // 2, 1)]).ends(), (0, 2 ** 39, 5))
        self.assertEqual(narrowed([(ONE // 2, 0)]).ends(), (2 ** 39, 2 ** 39, 5))
        self.assertEqual(narrowed([(LEAST, 1)]).ends(), (0, 2 ** 39, 6))
        self.assertEqual(narrowed([(ONE - LEAST, 0)]).ends(), ((2 ** 40 - 2 ** 31) * 256, 2 ** 39, 6))

    def test_a_width_of_just_the_least_is_left(self):
        steps = [(ONE // 2, 1)] * 8
        self.assertEqual(narrowed(steps).ends(), (0, 2 ** 32, 5))
        self.assertEqual(narrowed(steps + [(ONE // 2, 1)]).ends(), (0, 2 ** 39, 6))

    def test_a_width_of_one_less_grows(self):
        # (2 ** 20 - 1) * (2 ** 20 + 1) is 2 ** 40 - 1: the second cut is 2 ** 32 - 1.
        steps = [(2 ** 20 - 1, 1), (2 ** 20 + 1, 1)]
        self.assertEqual(narrowed(steps).ends(), (0, (2 ** 32 - 1) * 256, 6))

    def test_a_step_may_grow_the_size_twice(self):
        steps = [(ONE // 2, 1)] * 8 + [(LEAST, 1)]
        self.assertEqual(narrowed(steps).ends(), (0, 2 ** 39, 7))

    def test_the_cut_is_rounded_down(self):
        third = ONE // 3
        width = 2 ** 16 * third
        cut = width * third // ONE
        self.assertLess(cut * ONE, width * third)
        self.assertEqual(narrowed([(third, 1), (third, 1)]).ends(), (0, cut, 5))
        self.assertEqual(narrowed([(third, 1), (third, 0)]).ends(), (cut, width - cut, 5))

    def test_behind_each_of_many_steps(self):
        for name, steps in rows_of_steps().items():
            with self.subTest(name=name):
                span, ends = Span(), (0, 2 ** 40, 5)
                for chance, bit in steps:
                    self.assertIsNone(span.narrow(chance, bit))
                    ends = plain_step(ends, chance, bit)
                    self.assertTrue(span.ends() == ends)

    def test_a_tuple_of_three_whole_numbers(self):
        for steps in ([], [(ONE // 2, 0)], mixed_steps(11, 60)):
            ends = narrowed(steps).ends()
            self.assertIs(type(ends), tuple)
            self.assertEqual(len(ends), 3)
            for number in ends:
                self.assertTrue(is_whole(number))

    def test_the_two_halves_are_the_span_ahead(self):
        for name, steps in rows_of_steps().items():
            with self.subTest(name=name):
                for many in range(0, 120, 7):
                    self.assert_parts(steps[:many], steps[many][0])

    def assert_parts(self, steps, chance):
        low, width, size = narrowed(steps).ends()
        one_low, one_width, one_size = narrowed(steps + [(chance, 1)]).ends()
        nought_low, nought_width, nought_size = narrowed(steps + [(chance, 0)]).ends()
        longest = max(one_size, nought_size)
        grown = 256 ** (longest - size)
        one, nought = 256 ** (longest - one_size), 256 ** (longest - nought_size)
        self.assertGreater(one_width, 0)
        self.assertGreater(nought_width, 0)
        self.assertTrue(one_low * one == low * grown)
        self.assertTrue((one_low + one_width) * one == nought_low * nought)
        self.assertTrue((nought_low + nought_width) * nought == (low + width) * grown)

    def test_spans_side_by_side(self):
        first, second, third = Span(), Span(), Span()
        ends, others = (0, 2 ** 40, 5), (0, 2 ** 40, 5)
        for (chance, bit), (other, another) in zip(mixed_steps(5, 80), likely_steps(6, 80)):
            first.narrow(chance, bit)
            ends = plain_step(ends, chance, bit)
            self.assertEqual((first.ends(), second.ends()), (ends, others))
            second.narrow(other, another)
            others = plain_step(others, other, another)
            self.assertEqual((first.ends(), second.ends()), (ends, others))
        self.assertEqual(third.ends(), (0, 2 ** 40, 5))
        self.assertEqual(Span().ends(), (0, 2 ** 40, 5))

    def test_asking_changes_nothing(self):
        span, quiet = Span(), Span()
        for chance, bit in mixed_steps(8, 80):
            span.narrow(chance, bit)
            quiet.narrow(chance, bit)
            ends = span.ends()
            span.settled()
            span.told()
            self.assertEqual(span.ends(), ends)
        self.assertEqual(span.ends(), quiet.ends())
        self.assertEqual(span.told(), quiet.told())


class TestRefusals(unittest.TestCase):
    def assert_unchanged(self, span, name, chance, bit):
        ahead = (span.ends(), span.settled(), span.told())
        assert_refused(self, name, lambda: span.narrow(chance, bit))
        self.assertEqual((span.ends(), span.settled(), span.told()), ahead)

    def test_refused_changes_nothing_and_the_good_step_is_taken_then(self):
        for steps in ([], mixed_steps(3, 30)):
            span, ends = narrowed(steps), narrowed(steps).ends()
            for thing in no_chances():
                self.assert_unchanged(span, "NoChance", thing, 0)
                self.assert_unchanged(span, "NoChance", thing, 1)
            for thing in no_bits():
                self.assert_unchanged(span, "NoBit", LEAST, thing)
                self.assert_unchanged(span, "NoBit", ONE // 2, thing)
            span.narrow(ONE // 3, 0)
            self.assertEqual(span.ends(), plain_step(ends, ONE // 3, 0))
            self.assertEqual(span.told(), plainly_told(span.ends()))

    def test_no_chance_comes_ahead_of_no_bit(self):
        span = narrowed(mixed_steps(4, 10))
        for thing in no_chances():
            for other in no_bits():
                assert_refused(self, "NoChance", lambda: span.narrow(thing, other))
        self.assertEqual(span.ends(), narrowed(mixed_steps(4, 10)).ends())


class TestSettled(unittest.TestCase):
    def test_none_at_first(self):
        self.assertEqual(Span().settled(), [])

    def test_by_hand(self):
        # 0 to 2 ** 39 - 1: no byte. 0 to 2 ** 31 - 1 of five bytes: the first one, a nought.
        self.assertEqual(narrowed([(ONE // 2, 1)]).settled(), [])
        self.assertEqual(narrowed([(LEAST, 1)]).settled(), [0])
        self.assertEqual(narrowed([(ONE - LEAST, 0)]).settled(), [255])
        self.assertEqual(narrowed([(ONE // 2, 0)] + [(ONE // 2, 1)] * 7).settled(), [128])

    def test_all_that_both_ends_have_in_common(self):
        for name, steps in rows_of_steps().items():
            with self.subTest(name=name):
                span = Span()
                for chance, bit in steps[:400]:
                    span.narrow(chance, bit)
                    self.assertEqual(span.settled(), plainly_settled(span.ends()))

    def test_none_may_be_settled_for_long(self):
        span = narrowed(around_the_middle(400))
        self.assertGreater(span.ends()[2], 100)
        self.assertEqual(span.settled(), [])

    def test_what_is_settled_stays_so(self):
        for name, steps in rows_of_steps().items():
            with self.subTest(name=name):
                span, ahead = Span(), []
                for chance, bit in steps[:400]:
                    span.narrow(chance, bit)
                    settled = span.settled()
                    self.assertEqual(settled[:len(ahead)], ahead)
                    ahead = settled

    def test_a_new_list_of_bytes_each_time(self):
        span = narrowed(mixed_steps(21, 60))
        first = span.settled()
        kept = list(first)
        self.assertIs(type(first), list)
        self.assertTrue(first and all(is_sign(part) for part in first))
        first[0] = 999
        first.append(7)
        self.assertEqual(span.settled(), kept)
        later = span.settled()
        span.narrow(LEAST, 1)
        self.assertEqual(later, kept)


class TestTold(unittest.TestCase):
    def test_none_at_first(self):
        self.assertEqual(Span().told(), [])

    def test_by_hand(self):
        self.assertEqual(narrowed([(ONE // 2, 1)]).told(), [0])
        self.assertEqual(narrowed([(ONE // 2, 0)]).told(), [128])
        self.assertEqual(narrowed([(ONE - LEAST, 1)]).told(), [0])
        # From 1 / 512 on: the block of the first byte 0 is cut, that of 1 is whole.
        self.assertEqual(narrowed([(LEAST, 0)]).told(), [1])
        self.assertEqual(narrowed([(LEAST, 1)]).told(), [0, 0])
        self.assertEqual(narrowed([(ONE - LEAST, 0)]).told(), [255, 128])
        self.assertEqual(narrowed([(ONE // 2, 1)] * 8).told(), [0])

    def test_a_block_that_ends_one_beyond_the_span_is_not_in_it(self):
        # The span begins amid the rows of the first byte 5, and lacks the last number of those of 6.
        span = narrowed([(383199, 0), (77319, 1)])
        low, width, size = span.ends()
        self.assertEqual((low // 2 ** 32, low + width, size), (5, 7 * 2 ** 32 - 1, 5))
        self.assertEqual(span.told(), plainly_told(span.ends()))
        self.assertEqual(len(span.told()), 2)

    def test_against_a_plain_search(self):
        for name, steps in rows_of_steps().items():
            with self.subTest(name=name):
                span = Span()
                for many, (chance, bit) in enumerate(steps):
                    span.narrow(chance, bit)
                    if many < 100 or many % 60 == 0 or many + 1 == len(steps):
                        self.assertEqual(span.told(), plainly_told(span.ends()))

    def test_each_row_that_begins_so_lies_in_the_span(self):
        for name, steps in rows_of_steps().items():
            with self.subTest(name=name):
                span = narrowed(steps)
                low, width, size = span.ends()
                told = span.told()
                behind = size - len(told)
                self.assertGreaterEqual(behind, 0)
                self.assertTrue(low <= number_of(told + [0] * behind))
                self.assertTrue(number_of(told + [255] * behind) < low + width)

    def test_asked_twice_alike(self):
        span = Span()
        for chance, bit in mixed_steps(31, 60):
            span.narrow(chance, bit)
            first = span.told()
            kept = list(first)
            self.assertIs(type(first), list)
            self.assertTrue(all(is_sign(part) for part in first))
            self.assertEqual(span.told(), kept)
            first.append(7)
            first[0] = 999
            self.assertEqual(span.told(), kept)
        later = span.told()
        kept = list(later)
        span.narrow(LEAST, 1)
        self.assertEqual(later, kept)

    def test_begins_with_what_is_settled(self):
        for name, steps in rows_of_steps().items():
            with self.subTest(name=name):
                span = Span()
                for chance, bit in steps[:400]:
                    span.narrow(chance, bit)
                    settled = span.settled()
                    self.assertEqual(span.told()[:len(settled)], settled)


class TestBound(unittest.TestCase):
    def test_at_most_ten_bits_more_than_was_foretold(self):
        for name, steps in rows_of_steps().items():
            with self.subTest(name=name):
                span, given, ones = Span(), 1, 1
                self.assertTrue(256 ** len(span.told()) * given < 1024 * ones)
                for chance, bit in steps:
                    span.narrow(chance, bit)
                    given *= gives(chance, bit)
                    ones *= ONE
                    self.assertTrue(256 ** len(span.told()) * given < 1024 * ones)

    def test_of_a_long_row_of_likely_steps(self):
        span, given, ones = Span(), 1, 1
        for many, (chance, bit) in enumerate(likely_steps(41, 9000)):
            span.narrow(chance, bit)
            given *= gives(chance, bit)
            ones *= ONE
            if many % 100 == 0:
                self.assertTrue(256 ** len(span.told()) * given < 1024 * ones)
        self.assertTrue(256 ** len(span.told()) * given < 1024 * ones)


if __name__ == "__main__":
    unittest.main()
