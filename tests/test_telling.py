import unittest

from foretell.decisions import decisions_of
from foretell.numbers import ONE, is_bit, is_chance, is_whole
from foretell.telling import by_looks, checked_learned, cost, foretold
from tests.helper import (
    LEARNED, LOOKS, SOME_LOOKS, TEXTS, Touchy, assert_refused, cases, mixed_signs, mixed_worth, no_learned, no_looks,
    no_texts, numbers_from, product_given, taught, worth_of_best_row, worth_of_row,
)

HALF = ONE // 2
TELLINGS = (foretold, by_looks, cost)


class TestCheckedLearned(unittest.TestCase):
    def test_none_and_the_list_of_none(self):
        self.assertEqual(checked_learned(None), [])
        self.assertEqual(checked_learned([]), [])
        self.assertIs(type(checked_learned(None)), list)

    def test_texts(self):
        for learned in LEARNED + [[[255] * 1000], [[0] * 1000, [], mixed_signs(2, 1000)], [[1, 2]] * 60]:
            told = checked_learned(learned)
            self.assertEqual(told, learned)
            self.assertTrue(type(told) is list and all(type(text) is list for text in told))

    def test_what_is_told_is_new_throughout(self):
        text = [1, 2, 3]
        learned = [text, [4], text]
        told, again = checked_learned(learned), checked_learned(learned)
        self.assertIsNot(told, learned)
        told[0].append(9)
        self.assertEqual((told, again), ([[1, 2, 3, 9], [4], [1, 2, 3]], [[1, 2, 3], [4], [1, 2, 3]]))
        self.assertEqual(learned, [[1, 2, 3], [4], [1, 2, 3]])
        told.clear()
        text.clear()
        learned.pop()
        self.assertEqual(again, [[1, 2, 3], [4], [1, 2, 3]])
        for nothing in (None, []):
            checked_learned(nothing).append([1])
            self.assertEqual(checked_learned(nothing), [])

    def test_no_learned_texts(self):
        for thing in no_learned():
            assert_refused(self, "NoText", lambda: checked_learned(thing))

    def test_one_text_too_long(self):
        for many in (1001, 1002, 5000):
            for learned in ([[0] * many], [[1], [0] * many], [[0] * many, [1]]):
                assert_refused(self, "NoText", lambda: checked_learned(learned))

    def test_what_is_refused_stays_and_is_taken_when_mended(self):
        learned = [[1], [2, 256], [3]]
        assert_refused(self, "NoText", lambda: checked_learned(learned))
        self.assertEqual(learned, [[1], [2, 256], [3]])
        learned[1][1] = 255
        self.assertEqual(checked_learned(learned), [[1], [2, 255], [3]])


class TestForetold(unittest.TestCase):
    def test_by_hand(self):
        self.assertEqual(foretold([("even", ())], []), [(HALF, 0)])
        self.assertEqual(foretold([("even", ())], [], [[]]), [(ONE // 4, 0)])
        self.assertEqual(foretold([("even", ())], [], [[], []]), [(ONE // 6, 0)])
        self.assertEqual(by_looks([("even", ()), ("run", ())], [], [[], []]), [[ONE // 6, ONE - 5 * ONE // 6]])
        bits = [1, 1, 0, 0, 0, 0, 0, 0, 1]
        expected = [(HALF, bit) for bit in bits] + [(3 * ONE // 4, 0)]
        self.assertEqual(foretold([("even", ())], [129]), expected)
        self.assertEqual(foretold([("even", (1,))], [129]), [(HALF, bit) for bit in bits + [0]])
        self.assertEqual(by_looks([("even", ()), ("even", (1,))], [129]), [[HALF] * 2] * 9 + [[3 * ONE // 4, HALF]])
        self.assertEqual(foretold([("even", ()), ("even", (1,))], [129]), expected[:9] + [(5 * ONE // 8, 0)])

    def test_both_are_those_of_a_foreteller_that_has_seen_the_learned_texts(self):
        for looks, text, learned in cases():
            with self.subTest(looks=looks, text=text, learned=learned):
                self.assert_follows(looks, text, learned)

    def assert_follows(self, looks, text, learned):
        foreteller = taught(looks, learned)
        steps, rows = [], []
        for bit in decisions_of(text):
            steps.append((foreteller.chance(), bit))
            rows.append(foreteller.chances())
            foreteller.see(bit)
        self.assertEqual(foretold(looks, text, learned), steps)
        self.assertEqual(by_looks(looks, text, learned), rows)

    def test_kinds(self):
        for looks, text, learned in cases():
            steps, rows = foretold(looks, text, learned), by_looks(looks, text, learned)
            self.assertTrue(type(steps) is list and type(rows) is list)
            self.assertEqual((len(steps), len(rows)), (9 * len(text) + 1, 9 * len(text) + 1))
            self.assertEqual([bit for _, bit in steps], decisions_of(text))
            for step, chances in zip(steps, rows):
                self.assertTrue(type(step) is tuple and len(step) == 2 and is_chance(step[0]) and is_bit(step[1]))
                self.assertTrue(type(chances) is list and len(chances) == len(looks))
                self.assertTrue(all(is_chance(chance) for chance in chances))
                self.assertTrue(min(chances) <= step[0] <= max(chances))

    def test_of_the_longest_text(self):
        text = [97, 98, 99, 100] * 200 + mixed_signs(3, 200)
        self.assert_follows(LOOKS[:3], text, [text])
        self.assertTrue(is_whole(cost(LOOKS[:3], text, [text])))

    def test_the_order_of_the_learned_texts_matters(self):
        looks = [("run", ())]
        self.assertNotEqual(foretold(looks, [5], [[5], []]), foretold(looks, [5], [[], [5]]))

    def test_a_chance_hangs_on_nothing_but_what_is_ahead(self):
        for looks in SOME_LOOKS:
            first, second = [97, 98, 97, 98, 97], [97, 98, 97, 98, 99, 1, 2]
            steps = foretold(looks, first, [[97, 98]]), foretold(looks, second, [[97, 98]])
            # 97 and 99 part at their seventh bit, whose chance is foretold the same still.
            self.assertEqual(steps[0][:43], steps[1][:43])
            self.assertEqual([chance for chance, _ in steps[0][:44]], [chance for chance, _ in steps[1][:44]])
            self.assertNotEqual(steps[0][43], steps[1][43])

    def test_nothing_learned(self):
        for tell in TELLINGS:
            for looks in SOME_LOOKS:
                for text in TEXTS:
                    bare = tell(looks, text)
                    self.assertEqual(tell(looks, text, None), bare)
                    self.assertEqual(tell(looks, text, []), bare)
                    self.assertEqual(tell(looks, text, learned=None), bare)
        self.assertNotEqual(foretold([("even", ())], [], [[]]), foretold([("even", ())], []))


class TestCost(unittest.TestCase):
    def assert_least(self, told, chances, bits):
        """Point 13's own words; b bits do, one less does not, or there is none less."""
        self.assertTrue(is_whole(told))
        product, ones = product_given(chances, bits), ONE ** len(bits)
        self.assertGreaterEqual(told, 0)
        self.assertGreaterEqual(2 ** told * product, ones)
        if told > 0:
            self.assertLess(2 ** (told - 1) * product, ones)

    def test_is_the_least(self):
        for looks, text, learned in cases():
            with self.subTest(looks=looks, text=text, learned=learned):
                steps = foretold(looks, text, learned)
                self.assert_least(cost(looks, text, learned), [c for c, _ in steps], [bit for _, bit in steps])

    def test_where_it_is_just_equal(self):
        # With each decision of a chance of a half the product is ONE ** n by just so many halves.
        self.assertEqual(cost([("even", ())], []), 1)
        for sign in (0, 5, 255):
            for many in (1, 6):
                self.assertEqual(cost([("quick", (1,))] * many, [sign]), 10)
        text = list(range(50))
        self.assertEqual(cost([("run", (1, 2))], text), 9 * 50 + 1)
        # Nine halves and, at the end, a quarter, as a 1 was seen; or a quarter at first, and nine halves.
        self.assertEqual(cost([("even", ())], [9]), 11)
        self.assertEqual(cost([("even", ())], [9], [[]]), 11)

    def test_rounded_up_where_it_is_not_equal(self):
        # Nine halves and, at the end, three eighths: more than 10 bits, less than 11.
        self.assertEqual(cost([("even", ()), ("even", (1,))], [9]), 11)
        # Three quarters: less than a bit.
        self.assertEqual(cost([("even", ())], [], [[]]), 1)
        # A sixth, eight halves and, at the end, five eighths: more than 11 bits.
        self.assertEqual(cost([("even", ())], [9], [[], []]), 12)

    def test_little_is_a_bit_still(self):
        # A nought that is as good as sure costs less than a bit, rounded up.
        for many in (1, 20, 60):
            self.assertEqual(cost([("run", ())], [], [[]] * many), 1)

    def test_of_the_longest_texts(self):
        for text in ([0] * 1000, mixed_signs(4, 1000)):
            steps = foretold(LOOKS[:2], text)
            self.assert_least(cost(LOOKS[:2], text), [c for c, _ in steps], [bit for _, bit in steps])

    def test_what_was_learned_costs_less(self):
        for looks in (LOOKS, [("even", (1, 2))]):
            text = mixed_signs(5, 60)
            self.assertLess(2 * cost(looks, text, [text] * 3), cost(looks, text))


class TestBound(unittest.TestCase):
    """Point 4: mixed looks foretell a text no worse than any row of looks, but for what it tells."""

    def assert_bound(self, looks, text, learned):
        steps, rows = foretold(looks, text, learned), by_looks(looks, text, learned)
        bits = [bit for _, bit in steps]
        most, many = mixed_worth([chance for chance, _ in steps], len(looks), bits), len(looks)
        numbers = numbers_from(len(text))
        drawn = [[k] * len(bits) for k in range(many)]
        drawn.append([at % many for at in range(len(bits))])
        drawn.append([next(numbers) % many for _ in bits])
        best = worth_of_best_row(rows, bits)
        for row in drawn:
            self.assertLessEqual(worth_of_row(row, rows, bits), best)
        self.assertLessEqual(best, most)

    def test_of_texts(self):
        for looks, text, learned in cases():
            with self.subTest(looks=looks, text=text, learned=learned):
                self.assert_bound(looks, text, learned)

    def test_where_the_learned_texts_mislead(self):
        for looks in SOME_LOOKS:
            self.assert_bound(looks, [97, 98] * 40, [[97, 99] * 40, [98, 97] * 40])
            self.assert_bound(looks, [255] * 60, [[0] * 200])
            self.assert_bound(looks, [], [[0] * 200])
            self.assert_bound(looks, mixed_signs(6, 100), [[7] * 100])


class TestOwnLists(unittest.TestCase):
    def test_what_is_handed_in_stays(self):
        for tell in TELLINGS:
            looks, text, learned = list(LOOKS), [97, 98, 97], [[97, 98], [], [97]]
            tell(looks, text, learned)
            self.assertEqual((looks, text, learned), (LOOKS, [97, 98, 97], [[97, 98], [], [97]]))

    def test_what_is_told_may_be_changed(self):
        for tell in (foretold, by_looks):
            looks, text, learned = list(LOOKS), [97, 98, 97], [[97, 98], [], [97]]
            told, later = tell(looks, text, learned), tell(looks, text, learned)
            kept = [list(part) for part in later]
            if tell == by_looks:
                told[0].append(5)
                told[1][0] = None
            told.reverse()
            told.append(None)
            looks.clear()
            text.append(5)
            learned[0].clear()
            self.assertEqual([list(part) for part in later], kept)
            self.assertEqual([list(part) for part in tell(LOOKS, [97, 98, 97], [[97, 98], [], [97]])], kept)

    def test_the_lists_of_two_decisions_are_not_one(self):
        rows = by_looks([("even", (1,)), ("run", ())], [1, 2, 3])
        self.assertEqual(len({id(chances) for chances in rows}), len(rows))

    def test_the_text_may_be_one_of_the_learned(self):
        text = [97, 98, 97]
        for tell in TELLINGS:
            self.assertEqual(tell(LOOKS, text, [text, text]), tell(LOOKS, list(text), [list(text), list(text)]))
        self.assertEqual(text, [97, 98, 97])

    def test_nothing_is_kept_from_one_telling_to_the_next(self):
        for tell in TELLINGS:
            first = tell(LOOKS, [97, 98, 97], [[97, 98]])
            tell(LOOKS, [97, 98, 97, 98] * 5, [[97, 98] * 5])
            assert_refused(self, "NoText", lambda: tell(LOOKS, [97], [[97] * 5, [256]]))
            self.assertEqual(tell(LOOKS, [97, 98, 97], [[97, 98]]), first)


class TestRefusals(unittest.TestCase):
    good_looks = [("even", (1,))]

    def test_no_looks(self):
        for thing in no_looks():
            for tell in TELLINGS:
                assert_refused(self, "NoLooks", lambda: tell(thing, [1], [[1]]))

    def test_no_text(self):
        for thing in no_texts():
            for tell in TELLINGS:
                assert_refused(self, "NoText", lambda: tell(self.good_looks, thing))
                assert_refused(self, "NoText", lambda: tell(self.good_looks, thing, [[1]]))

    def test_a_text_of_1000_signs_and_of_one_more(self):
        for tell in TELLINGS:
            tell([("even", ())], [7] * 1000)
            assert_refused(self, "NoText", lambda: tell(self.good_looks, [7] * 1001))
            assert_refused(self, "NoText", lambda: tell(self.good_looks, [7], [[7] * 1001]))

    def test_no_learned_texts(self):
        for thing in no_learned():
            for tell in TELLINGS:
                assert_refused(self, "NoText", lambda: tell(self.good_looks, [1], thing))

    def test_in_the_order_of_the_arguments(self):
        for tell in TELLINGS:
            for looks in (None, [], [("odd", ())], Touchy(), [("even", (1,))] * 7):
                for text in ([1], None, [256], Touchy(), [1] * 1001):
                    for learned in (None, [], [[1]], [[256]], 5, Touchy()):
                        assert_refused(self, "NoLooks", lambda: tell(looks, text, learned))
            for text in (None, [256], Touchy(), [1] * 1001):
                for learned in (None, [], [[1]], [[256]], 5, Touchy()):
                    assert_refused(self, "NoText", lambda: tell(self.good_looks, text, learned))


if __name__ == "__main__":
    unittest.main()
