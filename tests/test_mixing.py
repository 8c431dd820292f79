import unittest

from foretell.mixing import Mixer
from foretell.numbers import LEAST, ONE, is_chance, is_whole
from tests.helper import (
    assert_refused, given, likely_steps, mixed_bits, mixed_steps, mixed_worth, no_bits, numbers_from, worth_of_best_row,
    worth_of_row,
)

FIRST = 2 ** 40
HALF = ONE // 2
MANY = range(1, 7)


def plain_mixed(weights, chances):
    return sum(weight * chance for weight, chance in zip(weights, chances)) // sum(weights)


def plain_weights(weights, chances, bit):
    """Point 11's own words."""
    many = len(weights)
    shares = [weight * given(chance, bit) for weight, chance in zip(weights, chances)]
    news = [31 * many * share + sum(shares) for share in shares]
    longer = len(bin(sum(news))) - len("0b") - 48
    return [new // 2 ** max(longer, 0) for new in news]


def mixed_rows(seed, many, length):
    """Chances of all sorts, of so many looks at each decision."""
    chances = [chance for chance, _ in mixed_steps(seed, many * length)]
    return [chances[start:start + many] for start in range(0, many * length, many)]


def steady_rows(many, length):
    """Each look is as good as sure of a bit, for long: each next one for half as long as the one ahead."""
    spans = [max(length // 2 ** k, 1) for k in range(many)]
    return [[(LEAST, ONE - LEAST)[at // span % 2] for span in spans] for at in range(length)]


def turning_rows(many, length):
    """At each decision one look in turn is as good as sure of a 1, the others of a 0."""
    return [[ONE - LEAST if at % many == k else LEAST for k in range(many)] for at in range(length)]


def all_rows(many):
    """Rows of chances and of bits, by name."""
    length = 300
    rows = {
        "mixed": (mixed_rows(many, many, length), mixed_bits(many, length)),
        "likely": ([[c] * many for c, _ in likely_steps(3, length)], [bit for _, bit in likely_steps(3, length)]),
        "steady, ones": (steady_rows(many, length), [1] * length),
        "steady, noughts": (steady_rows(many, length), [0] * length),
        "steady, long": (steady_rows(many, length), [1] * (length // 2) + [0] * (length // 2)),
        "turning": (turning_rows(many, length), [1] * length),
        "turning, noughts": (turning_rows(many, length), [0] * length),
        "turning, mixed": (turning_rows(many, length), mixed_bits(5, length)),
        "in turn": (mixed_rows(8, many, length), [at % 2 for at in range(length)]),
    }
    for chance in (LEAST, LEAST + 1, 100003, HALF, ONE - LEAST - 1, ONE - LEAST):
        for bit in (0, 1):
            rows[f"all {chance} with {bit}"] = ([[chance] * many] * length, [bit] * length)
    one_right = [[ONE - LEAST] + [LEAST] * (many - 1)] * (length // 2)
    one_wrong = [[LEAST] + [ONE - LEAST] * (many - 1)] * (length // 2)
    rows["the first right, then wrong"] = (one_right + one_wrong, [1] * length)
    rows["the first wrong, then right"] = (one_right + one_wrong, [0] * length)
    return rows


def learned(many, rows, bits):
    mixer = Mixer(many)
    for chances, bit in zip(rows, bits):
        mixer.learn(chances, bit)
    return mixer


class TestMixer(unittest.TestCase):
    def test_at_first(self):
        for many in MANY:
            self.assertEqual(Mixer(many).weights(), [FIRST] * many)

    def test_mixed_at_first_is_the_mean_rounded_down(self):
        self.assertEqual(Mixer(1).mixed([LEAST]), LEAST)
        self.assertEqual(Mixer(1).mixed([ONE - LEAST]), ONE - LEAST)
        self.assertEqual(Mixer(2).mixed([LEAST, ONE - LEAST]), HALF)
        self.assertEqual(Mixer(2).mixed([LEAST, LEAST + 1]), LEAST)
        self.assertEqual(Mixer(2).mixed([LEAST + 1, LEAST + 2]), LEAST + 1)
        self.assertEqual(Mixer(3).mixed([HALF, HALF, HALF + 2]), HALF)
        self.assertEqual(Mixer(3).mixed([HALF, HALF, HALF + 3]), HALF + 1)
        self.assertEqual(Mixer(6).mixed([LEAST] * 5 + [ONE - LEAST]), (4 * LEAST + ONE) // 6)

    def test_learned_by_hand(self):
        one = Mixer(1)
        one.learn([ONE - LEAST], 0)
        # 32 * 2 ** 40 * 2 ** 15 has 61 binary figures.
        self.assertEqual(one.weights(), [2 ** 47])
        for chances, bit in (([3 * ONE // 4, ONE // 4], 1), ([ONE // 4, 3 * ONE // 4], 0)):
            two = Mixer(2)
            two.learn(chances, bit)
            # The shares are 3 and 1, all is 4, 62 of the own share: 190 and 66 of 256.
            self.assertEqual(two.weights(), [190 * 2 ** 39, 66 * 2 ** 39])
        self.assertEqual(two.mixed([HALF, HALF]), HALF)
        self.assertEqual(two.mixed([ONE // 4, 3 * ONE // 4]), (190 * 1 + 66 * 3) * ONE // 1024)

    def test_learned_by_hand_with_rounding(self):
        three = Mixer(3)
        three.learn([LEAST, LEAST, ONE - LEAST], 1)
        # In parts of 2 ** 55 the shares are 1, 1, 511; the sum of 96 * 513 of these has 71 binary figures.
        expected = [(93 * share + 513) * 2 ** 55 // 2 ** 23 for share in (1, 1, 511)]
        self.assertEqual(three.weights(), expected)
        three.learn([LEAST + 1, HALF + 1, HALF], 0)
        shares = [expected[0] * (ONE - LEAST - 1), expected[1] * (HALF - 1), expected[2] * HALF]
        figures = (96 * sum(shares)).bit_length()
        self.assertEqual(three.weights(), [(93 * share + sum(shares)) // 2 ** (figures - 48) for share in shares])

    def test_against_the_points_own_words(self):
        for many in MANY:
            for name, (rows, bits) in all_rows(many).items():
                with self.subTest(many=many, name=name):
                    self.assert_follows(many, rows, bits)

    def assert_follows(self, many, rows, bits):
        mixer, weights = Mixer(many), [FIRST] * many
        for chances, bit in zip(rows, bits):
            mixed = mixer.mixed(chances)
            self.assertTrue(is_chance(mixed))
            self.assertEqual(mixed, plain_mixed(weights, chances))
            self.assertTrue(min(chances) <= mixed <= max(chances))
            self.assertIsNone(mixer.learn(chances, bit))
            weights = plain_weights(weights, chances, bit)
            told = mixer.weights()
            self.assertEqual(told, weights)
            self.assertTrue(all(is_whole(weight) and weight > 0 for weight in told))
            self.assertLessEqual(sum(told), 2 ** 48 - 1)
            self.assertGreater(sum(told), 2 ** 47 - many)

    def test_with_chances_at_both_ends_and_amid_for_any_weights(self):
        for many in MANY:
            for name, (rows, bits) in all_rows(many).items():
                mixer = learned(many, rows, bits)
                for chances in mixed_rows(70 + many, many, 30) + steady_rows(many, 30):
                    self.assertEqual(mixer.mixed(chances), plain_mixed(mixer.weights(), chances))
                for chance in (LEAST, LEAST + 1, HALF, ONE - LEAST - 1, ONE - LEAST):
                    self.assertEqual(mixer.mixed([chance] * many), chance, name)

    def test_who_was_right_weighs_more_and_no_one_is_lost(self):
        for many in (2, 3, 6):
            rows = [[ONE - LEAST] + [LEAST] * (many - 1)] * 200
            right, wrong = learned(many, rows, [1] * 200), learned(many, rows, [0] * 200)
            self.assertGreater(right.weights()[0], 2 ** 46)
            self.assertLess(wrong.weights()[0], 2 ** 43)
            for mixer in (right, wrong):
                # A look has no less than one part in 32 of an even share.
                self.assertGreaterEqual(min(mixer.weights()) + 1, sum(mixer.weights()) // (32 * many))

    def test_two_mixers_side_by_side(self):
        for many in MANY:
            first, second = Mixer(many), Mixer(many)
            rows, bits = mixed_rows(31, many, 120), mixed_bits(32, 120)
            for at, (chances, bit) in enumerate(zip(rows, bits)):
                first.learn(chances, bit)
                if at % 3 == 0:
                    second.learn(chances, 1 - bit)
            self.assertEqual(first.weights(), learned(many, rows, bits).weights())
            others = learned(many, rows[::3], [1 - bit for bit in bits[::3]])
            self.assertEqual(second.weights(), others.weights())
            self.assertEqual(Mixer(many).weights(), [FIRST] * many)

    def test_asking_changes_no_weight(self):
        for many in MANY:
            rows, bits = mixed_rows(33, many, 60), mixed_bits(34, 60)
            mixer = Mixer(many)
            for chances, bit in zip(rows, bits):
                weights = mixer.weights()
                for others in rows[:5]:
                    self.assertEqual(mixer.mixed(others), mixer.mixed(others))
                self.assertEqual(mixer.weights(), weights)
                mixer.learn(chances, bit)
            self.assertEqual(mixer.weights(), learned(many, rows, bits).weights())

    def test_lists_handed_in_stay_and_may_be_changed_later(self):
        for many in MANY:
            rows, bits = mixed_rows(35, many, 40), mixed_bits(36, 40)
            mixer, kept = Mixer(many), [list(chances) for chances in rows]
            for chances, bit in zip(rows, bits):
                mixer.mixed(chances)
                mixer.learn(chances, bit)
                weights = mixer.weights()
                self.assertEqual(rows, kept)
                handed = list(chances)
                mixer.mixed(handed)
                handed.clear()
                self.assertEqual(mixer.weights(), weights)
            again = Mixer(many)
            handed = []
            for chances, bit in zip(rows, bits):
                handed[:] = chances
                again.learn(handed, bit)
            handed.clear()
            self.assertEqual(again.weights(), mixer.weights())

    def test_lists_told_may_be_changed(self):
        for many in MANY:
            mixer, quiet = Mixer(many), Mixer(many)
            for chances, bit in zip(mixed_rows(37, many, 40), mixed_bits(38, 40)):
                told, later = mixer.weights(), mixer.weights()
                self.assertIs(type(told), list)
                self.assertIsNot(told, later)
                kept = list(later)
                told[0] = 0
                told.append(5)
                self.assertEqual(mixer.weights(), kept)
                mixer.learn(chances, bit)
                quiet.learn(chances, bit)
                self.assertEqual(later, kept)
                self.assertEqual(mixer.weights(), quiet.weights())

    def test_no_bit_and_the_weights_stay(self):
        for many in MANY:
            mixer, quiet = Mixer(many), Mixer(many)
            for chances, bit in zip(mixed_rows(39, many, 30), mixed_bits(40, 30)):
                for thing in no_bits():
                    assert_refused(self, "NoBit", lambda: mixer.learn(chances, thing))
                self.assertEqual(mixer.weights(), quiet.weights())
                mixer.learn(chances, bit)
                quiet.learn(chances, bit)
                self.assertEqual(mixer.weights(), quiet.weights())


class TestBound(unittest.TestCase):
    """Point 4: mixed looks foretell no worse than any row of looks, but for what it tells."""

    def assert_bound(self, mixer, many, rows, bits):
        mixed = []
        for chances, bit in zip(rows, bits):
            mixed.append(mixer.mixed(chances))
            mixer.learn(chances, bit)
        most = mixed_worth(mixed, many, bits)
        numbers = numbers_from(many)
        drawn = {
            "turns at each": [at % many for at in range(len(bits))],
            "turns back at each": [-at % many for at in range(len(bits))],
            "by chance": [next(numbers) % many for _ in bits],
            "seldom turns": [at // 50 % many for at in range(len(bits))],
        }
        drawn.update({f"never turns, {k}": [k] * len(bits) for k in range(many)})
        best = worth_of_best_row(rows, bits)
        for name, row in drawn.items():
            worth = worth_of_row(row, rows, bits)
            self.assertLessEqual(worth, most, name)
            self.assertLessEqual(worth, best, name)
        self.assertLessEqual(best, most)

    def test_from_the_begin_on(self):
        for many in MANY:
            for name, (rows, bits) in all_rows(many).items():
                with self.subTest(many=many, name=name):
                    self.assert_bound(Mixer(many), many, rows, bits)

    def test_of_few_decisions(self):
        for many in MANY:
            for name, (rows, bits) in all_rows(many).items():
                for length in (1, 2, 3, 7):
                    with self.subTest(many=many, name=name, length=length):
                        self.assert_bound(Mixer(many), many, rows[:length], bits[:length])

    def test_behind_others_that_were_learned(self):
        for many in MANY:
            for name, (rows, bits) in all_rows(many).items():
                with self.subTest(many=many, name=name):
                    turned = [1 - bit for bit in bits]
                    self.assert_bound(learned(many, rows, turned), many, rows, bits)
                    self.assert_bound(learned(many, rows, turned), many, rows[:1], bits[:1])

    def test_over_as_many_decisions_as_a_text_has(self):
        for many in (1, 2, 6):
            for chance in (LEAST + 1, 100003):
                # Just beside one another, so that rounding down takes the most.
                rows = [[chance] * (many - 1) + [chance - 1]] * 9001
                self.assert_bound_of_long(many, rows, [1] * 9001)
            self.assert_bound_of_long(many, turning_rows(many, 9001), [1] * 9001)

    def assert_bound_of_long(self, many, rows, bits):
        mixer, mixed = Mixer(many), []
        for chances, bit in zip(rows, bits):
            mixed.append(mixer.mixed(chances))
            mixer.learn(chances, bit)
        most = mixed_worth(mixed, many, bits)
        self.assertLessEqual(worth_of_row([at % many for at in range(len(bits))], rows, bits), most)
        self.assertLessEqual(worth_of_row([0] * len(bits), rows, bits), most)


if __name__ == "__main__":
    unittest.main()
