import unittest

from foretell.numbers import LEAST, ONE, is_bit, is_sign
from foretell.seekers import Seeker
from foretell.spans import Span
from tests.helper import (
    assert_refused, bad_lists, likely_steps, mixed_signs, mixed_steps, narrowed, no_chances, no_lists, number_of,
    plain_step, rows_of_steps,
)

FIRST = (0, 2 ** 40, 5)


def datas():
    """Bytes by name: none, few, many, with noughts or 255s behind."""
    few = [3, 141, 59]
    many = mixed_signs(17, 300)
    return {
        "none": [], "a nought": [0], "noughts": [0] * 40, "a 255": [255], "255s": [255] * 40, "the middle": [128],
        "just ahead of the middle": [127] + [255] * 60, "few": few, "few, noughts behind": few + [0] * 40,
        "few, 255s behind": few + [255] * 40, "many": many, "many, noughts behind": many + [0] * 40,
        "many, 255s behind": many + [255] * 40, "five": [1, 2, 3, 4, 5], "six": [255, 0, 255, 0, 255, 1],
        "all 255s": [255] * 12000,
    }


def rows_of_chances():
    rows = {"mixed": [chance for chance, _ in mixed_steps(2, 300)], "likely": [c for c, _ in likely_steps(3, 300)]}
    for chance in (LEAST, LEAST + 1, ONE // 3, ONE // 2, ONE - ONE // 3, ONE - LEAST - 1, ONE - LEAST):
        rows[str(chance)] = [chance] * 300
    rows["the ends, in turn"] = [LEAST, ONE - LEAST] * 150
    return rows


def number_in(data, size):
    return number_of(data[:size] + [0] * (size - len(data)))


def holds(ends, data):
    low, width, size = ends
    return low <= number_in(data, size) < low + width


def plain_bit(ends, data, chance):
    """Point 7's own words: the one bit for which the row lies in the span narrowed so."""
    fitting = [bit for bit in (0, 1) if holds(plain_step(ends, chance, bit), data)]
    if len(fitting) != 1:
        raise RuntimeError("a row lies in just one of the two")
    return fitting[0]


def asked(seeker, chances):
    return [seeker.bit(chance) for chance in chances]


class TestAsked(unittest.TestCase):
    def test_at_first(self):
        for name, data in datas().items():
            with self.subTest(name=name):
                seeker = Seeker(data)
                self.assertEqual(seeker.ends(), FIRST)
                self.assertEqual(seeker.told(), [])

    def test_by_hand(self):
        self.assertEqual(Seeker([]).bit(LEAST), 1)
        self.assertEqual(Seeker([0]).bit(LEAST), 1)
        self.assertEqual(Seeker([255]).bit(LEAST), 0)
        self.assertEqual(Seeker([255]).bit(ONE - LEAST), 1)
        self.assertEqual(Seeker([255, 128]).bit(ONE - LEAST), 0)

    def test_the_border_is_of_a_nought_and_the_number_ahead_of_a_one(self):
        for chance in (LEAST, LEAST + 1, ONE // 3, ONE // 2, ONE - LEAST):
            border = 2 ** 16 * chance
            self.assertEqual(Seeker(list(border.to_bytes(5, "big"))).bit(chance), 0)
            self.assertEqual(Seeker(list((border - 1).to_bytes(5, "big"))).bit(chance), 1)
        self.assertEqual(Seeker([128]).bit(ONE // 2), 0)
        self.assertEqual(Seeker([127, 255, 255, 255, 255]).bit(ONE // 2), 1)

    def test_behind_the_bytes_are_noughts_without_end(self):
        # Of 255s alone each bit is a 0; the first nought behind them lies ahead of the span's middle.
        self.assertEqual(asked(Seeker([255]), [ONE // 2] * 11), [0] * 8 + [1] * 3)
        self.assertEqual(asked(Seeker([255] * 12), [ONE // 2] * 200), [0] * 96 + [1] * 104)
        self.assertEqual(asked(Seeker([]), [LEAST] * 2000), [1] * 2000)

    def test_the_longest_bytes_are_read_to_their_end(self):
        seeker = Seeker([255] * 12000)
        # 9 bits by each: 96000 of them are 10666 noughts and 6 bits more.
        self.assertEqual(asked(seeker, [ONE - LEAST] * 10667), [0] * 10666 + [1])

    def test_against_the_points_own_words(self):
        for name, data in datas().items():
            for which, chances in rows_of_chances().items():
                with self.subTest(data=name, chances=which):
                    self.assert_follows(Seeker(data), data, chances)

    def assert_follows(self, seeker, data, chances):
        span, ends = Span(), FIRST
        for many, chance in enumerate(chances):
            bit = seeker.bit(chance)
            self.assertTrue(is_bit(bit))
            self.assertEqual(bit, plain_bit(ends, data, chance))
            ends = plain_step(ends, chance, bit)
            span.narrow(chance, bit)
            self.assertTrue(seeker.ends() == ends == span.ends())
            self.assertTrue(holds(seeker.ends(), data))
            if many < 20 or many % 50 == 0:
                self.assertEqual(seeker.told(), span.told())
        self.assertEqual(seeker.told(), span.told())

    def test_asking_for_ends_and_told_changes_nothing(self):
        data, chances = mixed_signs(4, 60), [chance for chance, _ in mixed_steps(5, 120)]
        seeker, bits = Seeker(data), []
        for chance in chances:
            ends = seeker.ends()
            self.assertEqual(seeker.told(), seeker.told())
            self.assertEqual(seeker.ends(), ends)
            bits.append(seeker.bit(chance))
        self.assertEqual(bits, asked(Seeker(data), chances))

    def test_seekers_side_by_side(self):
        datas_of_two = ([200, 7, 9] * 20, [11, 250] * 30)
        chances = ([c for c, _ in mixed_steps(6, 150)], [c for c, _ in likely_steps(7, 150)])
        first, second = Seeker(datas_of_two[0]), Seeker(datas_of_two[1])
        bits = ([], [])
        for one, other in zip(*chances):
            bits[0].append(first.bit(one))
            bits[1].append(second.bit(other))
        for k in (0, 1):
            self.assertEqual(bits[k], asked(Seeker(datas_of_two[k]), chances[k]))


class TestAgain(unittest.TestCase):
    behinds = ([], [0], [255], [0] * 30, [255] * 30, [1, 2, 3], mixed_signs(9, 50))

    def assert_again(self, seeker, steps):
        self.assertEqual(asked(seeker, [chance for chance, _ in steps]), [bit for _, bit in steps])

    def test_the_bits_by_which_a_span_was_narrowed(self):
        for name, steps in rows_of_steps().items():
            span = narrowed(steps)
            told, ends = span.told(), span.ends()
            for behind in self.behinds:
                with self.subTest(name=name, behind=behind[:3]):
                    seeker = Seeker(told + behind)
                    self.assert_again(seeker, steps)
                    self.assertEqual((seeker.ends(), seeker.told()), (ends, told))

    def test_few_steps_and_none(self):
        for steps in ([], [(LEAST, 1)], [(LEAST, 0)], [(ONE - LEAST, 1)], [(ONE - LEAST, 0)], mixed_steps(12, 5)):
            for behind in self.behinds:
                self.assert_again(Seeker(narrowed(steps).told() + behind), steps)

    def test_the_first_half_of_them_when_other_chances_follow(self):
        for name, steps in rows_of_steps().items():
            half = steps[:len(steps) // 2]
            told = narrowed(steps).told()
            for behind in ([], [255] * 5):
                with self.subTest(name=name, behind=behind):
                    data = told + behind
                    seeker = Seeker(data)
                    self.assert_again(seeker, half)
                    ends = narrowed(half).ends()
                    for chance, _ in mixed_steps(13, 60):
                        bit = seeker.bit(chance)
                        self.assertEqual(bit, plain_bit(ends, data, chance))
                        ends = plain_step(ends, chance, bit)
                        self.assertTrue(seeker.ends() == ends)


class TestOwnLists(unittest.TestCase):
    def test_what_is_done_to_the_list_handed_in_changes_nothing(self):
        data, chances = mixed_signs(14, 80), [chance for chance, _ in mixed_steps(15, 200)]
        expected = asked(Seeker(list(data)), chances)
        handed, seeker, bits = list(data), Seeker(data), []
        for many, chance in enumerate(chances):
            bits.append(seeker.bit(chance))
            if many == 3:
                data[20:] = [0] * 300
            if many == 60:
                data.clear()
        self.assertEqual(bits, expected)
        self.assertEqual(asked(Seeker(handed), chances), expected)
        self.assertEqual(handed, mixed_signs(14, 80))

    def test_what_is_done_to_a_list_that_was_told_changes_nothing(self):
        data, chances = mixed_signs(16, 80), [chance for chance, _ in mixed_steps(17, 120)]
        seeker, quiet = Seeker(data), Seeker(data)
        for chance in chances:
            self.assertEqual(seeker.bit(chance), quiet.bit(chance))
            told = seeker.told()
            kept = list(told)
            self.assertIs(type(told), list)
            self.assertTrue(all(is_sign(part) for part in told))
            told.append(999)
            told[0] = None
            self.assertEqual(seeker.told(), kept)
            self.assertEqual(seeker.ends(), quiet.ends())
        later = seeker.told()
        kept = list(later)
        seeker.bit(LEAST)
        self.assertEqual(later, kept)


class TestRefusals(unittest.TestCase):
    def test_no_bytes(self):
        for thing in no_lists() + bad_lists(12000):
            assert_refused(self, "NoBytes", lambda: Seeker(thing))

    def test_12000_bytes_are_bytes(self):
        self.assertEqual(Seeker([7] * 12000).bit(ONE // 2), 1)
        assert_refused(self, "NoBytes", lambda: Seeker([7] * 12001))

    def test_no_chance_and_it_goes_on_as_one_that_was_never_refused(self):
        data, chances = mixed_signs(18, 60), [chance for chance, _ in mixed_steps(19, 80)]
        seeker, quiet = Seeker(data), Seeker(data)
        for chance in chances:
            ahead = (seeker.ends(), seeker.told())
            for thing in no_chances():
                assert_refused(self, "NoChance", lambda: seeker.bit(thing))
            self.assertEqual((seeker.ends(), seeker.told()), ahead)
            self.assertEqual(seeker.bit(chance), quiet.bit(chance))
        self.assertEqual((seeker.ends(), seeker.told()), (quiet.ends(), quiet.told()))


if __name__ == "__main__":
    unittest.main()
