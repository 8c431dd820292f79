import unittest

from foretell.decisions import decisions_of
from foretell.foretellers import Foreteller
from foretell.looks import Book
from foretell.mixing import Mixer
from foretell.numbers import ONE, is_chance, is_sign, is_whole
from tests.helper import KINDS, LOOKS, assert_refused, mixed_bits, mixed_signs, no_bits, no_looks, steps_of

FIRST = 2 ** 40
HALF = ONE // 2
TEXTS = [
    [97, 98, 97, 98, 97], [], [97, 98, 97, 99], mixed_signs(1, 25), [0] * 12, [], [], [255], [97, 98, 97, 98],
    mixed_signs(1, 25), [0, 255] * 6,
]
ROWS_OF_LOOKS = [LOOKS[:many] for many in range(1, 7)] + [
    [(kind, ())] for kind in KINDS
] + [[("run", (1, 2))] * 3, [("quick", (1,)), ("quick", (1,)), ("even", (8,))], [("even", (1, 2, 3, 4))] * 6]


def bits_of(texts):
    return [bit for text in texts for bit in decisions_of(text)]


def told_by(foreteller):
    """All that a foreteller tells."""
    return (
        foreteller.chances(), foreteller.chance(), foreteller.weights(), foreteller.node(), foreteller.signs(),
    )


def that_saw(looks, bits):
    foreteller = Foreteller(looks)
    for bit in bits:
        foreteller.see(bit)
    return foreteller


class TestForetelling(unittest.TestCase):
    def test_at_first(self):
        for looks in ROWS_OF_LOOKS:
            many = len(looks)
            self.assertEqual(told_by(Foreteller(looks)), ([HALF] * many, HALF, [FIRST] * many, 0, []))

    def test_by_hand(self):
        foreteller = Foreteller([("even", ()), ("run", (1,))])
        foreteller.see(0)
        self.assertEqual(foreteller.chances(), [ONE // 4, ONE // 4])
        self.assertEqual(foreteller.chance(), ONE // 4)
        for bit in decisions_of([5])[:-1]:
            foreteller.see(bit)
        # The context of no sign has seen a 0 and a 1, that of the 5 nothing yet.
        self.assertEqual((foreteller.node(), foreteller.signs()), (0, [5]))
        self.assertEqual(foreteller.chances(), [HALF, HALF])
        foreteller.see(0)
        self.assertEqual((foreteller.node(), foreteller.signs()), (0, []))
        # Seen by no place: 0, 1, 0; ahead of a text's first sign: 0, 1.
        self.assertEqual(foreteller.chances(), [3 * ONE // 8, 3 * ONE // 4])
        foreteller.see(1)
        self.assertEqual((foreteller.node(), foreteller.signs()), (1, []))
        self.assertEqual(foreteller.chances(), [ONE // 4, ONE // 4])

    def test_weights_by_hand(self):
        foreteller = Foreteller([("even", ()), ("run", (1,))])
        foreteller.see(0)
        self.assertEqual(foreteller.weights(), [2 ** 46, 2 ** 46])
        foreteller.see(0)
        self.assertEqual(foreteller.weights(), [3 * 2 ** 45, 3 * 2 ** 45])
        self.assertEqual(foreteller.chances(), [ONE // 6, ONE - 5 * ONE // 6])
        foreteller = Foreteller([("even", ()), ("even", (1,))])
        for bit in decisions_of([0])[:-1]:
            foreteller.see(bit)
        # Both foretold alike so far; now that of no place has seen a 1, the other one nothing of what follows a nought.
        self.assertEqual(foreteller.weights(), [2 ** 46, 2 ** 46])
        self.assertEqual(foreteller.chances(), [3 * ONE // 4, HALF])
        self.assertEqual(foreteller.chance(), 5 * ONE // 8)
        foreteller.see(0)
        # The shares are 1 and 2, all is 3, 62 of the own share: 65 and 127 of 192, 2 ** 8 of these below 2 ** 48.
        self.assertEqual(foreteller.weights(), [65 * 2 ** 40, 127 * 2 ** 40])

    def test_at_each_decision_against_books_and_a_mixer(self):
        for looks in ROWS_OF_LOOKS:
            with self.subTest(looks=looks):
                self.assert_follows(looks, TEXTS)
                self.assert_follows(looks, [])

    def test_of_a_long_text_and_the_same_again(self):
        text = ([97, 98, 99, 100] * 20 + mixed_signs(6, 170)) * 4
        self.assertEqual(len(text), 1000)
        self.assert_follows([("even", (1,)), ("run", (1, 2, 8)), ("quick", ())], [text, text[:50]])

    def assert_follows(self, looks, texts):
        foreteller, books, mixer = Foreteller(looks), [Book(look) for look in looks], Mixer(len(looks))
        for text in texts:
            for signs, node, bit in steps_of(text):
                chances = [book.chance(signs, node) for book in books]
                expected = (chances, mixer.mixed(chances), mixer.weights(), node, signs)
                self.assertEqual(told_by(foreteller), expected)
                self.assert_kinds(foreteller, len(looks))
                self.assertIsNone(foreteller.see(bit))
                mixer.learn(chances, bit)
                for book in books:
                    book.seen(signs, node, bit)
            self.assertEqual((foreteller.node(), foreteller.signs()), (0, []))

    def assert_kinds(self, foreteller, many):
        for told, good in (
            (foreteller.chances(), is_chance), (foreteller.weights(), is_whole), (foreteller.signs(), is_sign),
        ):
            self.assertIs(type(told), list)
            self.assertTrue(all(good(part) for part in told))
        self.assertEqual((len(foreteller.chances()), len(foreteller.weights())), (many, many))
        self.assertTrue(is_chance(foreteller.chance()))
        self.assertTrue(is_whole(foreteller.node()) and 0 <= foreteller.node() <= 255)

    def test_nodes_and_signs_by_hand(self):
        foreteller = Foreteller(LOOKS)
        told = []
        for bit in decisions_of([0b10110001, 255]):
            told.append((foreteller.node(), foreteller.signs()))
            foreteller.see(bit)
        signs = [0b10110001]
        expected = [(0, [])] + [(node, []) for node in (1, 0b11, 0b110, 0b1101, 0b11011, 0b110110, 0b1101100, 0b11011000)]
        expected += [(0, signs)] + [(2 ** k - 1, signs) for k in range(1, 9)] + [(0, signs + [255])]
        self.assertEqual(told, expected)
        self.assertEqual((foreteller.node(), foreteller.signs()), (0, []))

    def test_each_sign_is_told_again(self):
        foreteller = Foreteller([("even", ())])
        text = list(range(256))
        for bit in decisions_of(text)[:-1]:
            foreteller.see(bit)
        self.assertEqual(foreteller.signs(), text)

    def test_as_many_signs_as_a_text_has(self):
        foreteller = Foreteller([("run", (8,))])
        text = mixed_signs(2, 1000)
        for bit in decisions_of(text)[:-1]:
            foreteller.see(bit)
        self.assertEqual((foreteller.node(), foreteller.signs()), (0, text))
        foreteller.see(0)
        self.assertEqual((foreteller.node(), foreteller.signs()), (0, []))

    def test_what_stands_in_another_text_is_never_a_sign_ahead(self):
        for kind in KINDS:
            foreteller = that_saw([(kind, (1,))], bits_of([[7, 7, 7]]))
            ahead = Book((kind, (1,)))
            ahead.seen([], 0, 1)
            self.assertEqual(foreteller.chances(), [ahead.chance([], 0)])
            # Behind the 9 there is none two back; were the text ahead seen, the 3 would stand there, unseen as yet.
            foreteller = that_saw([(kind, (2,))], bits_of([[1, 2, 3], [9]])[:-1])
            ahead = Book((kind, (2,)))
            for signs, bit in (([], 1), ([1], 1), ([], 1)):
                ahead.seen(signs, 0, bit)
            self.assertEqual(foreteller.chances(), [ahead.chance([9], 0)])
            self.assertNotEqual(foreteller.chances(), [HALF])

    def test_slots_and_weights_stay_behind_a_text(self):
        foreteller = Foreteller([("even", (1, 2)), ("run", ())])
        for bit in bits_of([[65, 66, 67] * 30]):
            foreteller.see(bit)
        weights = foreteller.weights()
        self.assertNotEqual(weights[0], weights[1])
        self.assertNotEqual(foreteller.chances(), [HALF, HALF])
        foreteller.see(1)
        for bit in (0, 1, 0, 0, 0):
            told = foreteller.chances()[0]
            # Ahead of the first sign is none, which came once: so its bits get three quarters.
            self.assertEqual(told, 3 * ONE // 4 if bit == 1 else ONE // 4)
            foreteller.see(bit)

    def test_any_row_of_bits_may_come(self):
        for bits in ([0] * 400, [1] * 400, mixed_bits(4, 400), [1, 0] * 200, [1] * 9 + [0] * 300):
            foreteller = Foreteller(LOOKS)
            for bit in bits:
                foreteller.see(bit)
                self.assert_kinds(foreteller, len(LOOKS))


class TestAsking(unittest.TestCase):
    def test_asking_changes_nothing_however_often(self):
        for looks in ROWS_OF_LOOKS:
            noisy, quiet = Foreteller(looks), Foreteller(looks)
            for many, bit in enumerate(bits_of(TEXTS)):
                ahead = told_by(noisy)
                for ask in (noisy.chances, noisy.chance, noisy.weights, noisy.node, noisy.signs)[many % 5:]:
                    for _ in range(many % 3):
                        ask()
                self.assertEqual(told_by(noisy), ahead)
                noisy.see(bit)
                quiet.see(bit)
                if many % 7 == 0:
                    self.assertEqual(told_by(noisy), told_by(quiet))
            self.assertEqual(told_by(noisy), told_by(quiet))
            silent = that_saw(looks, bits_of(TEXTS))
            for bit in bits_of(TEXTS):
                self.assertEqual(told_by(noisy), told_by(silent))
                noisy.see(bit)
                silent.see(bit)

    def test_two_side_by_side(self):
        looks = LOOKS[:3]
        first, second = Foreteller(looks), Foreteller(looks)
        rows = bits_of(TEXTS), bits_of(list(reversed(TEXTS)))
        for one, other in zip(*rows):
            first.see(one)
            second.see(other)
        self.assertEqual(told_by(first), told_by(that_saw(looks, rows[0])))
        self.assertEqual(told_by(second), told_by(that_saw(looks, rows[1])))
        self.assertEqual(told_by(Foreteller(looks)), ([HALF] * 3, HALF, [FIRST] * 3, 0, []))

    def test_the_looks_handed_in_stay_and_may_be_changed_later(self):
        looks = list(LOOKS)
        foreteller = Foreteller(looks)
        for many, bit in enumerate(bits_of(TEXTS)):
            if many == 30:
                self.assertEqual(looks, LOOKS)
                looks.reverse()
            if many == 60:
                looks.clear()
            foreteller.see(bit)
        self.assertEqual(told_by(foreteller), told_by(that_saw(LOOKS, bits_of(TEXTS))))
        self.assertEqual(told_by(foreteller.fork()), told_by(foreteller))

    def test_lists_told_may_be_changed(self):
        foreteller, quiet = Foreteller(LOOKS), Foreteller(LOOKS)
        for bit in bits_of(TEXTS):
            later = [foreteller.chances(), foreteller.weights(), foreteller.signs()]
            kept = [list(told) for told in later]
            for told in (foreteller.chances(), foreteller.weights(), foreteller.signs()):
                told.reverse()
                told.append(77)
                told[0] = None
            self.assertEqual(told_by(foreteller), told_by(quiet))
            foreteller.see(bit)
            quiet.see(bit)
            self.assertEqual(later, kept)
        self.assertEqual(told_by(foreteller), told_by(quiet))


class TestFork(unittest.TestCase):
    # The same signs in other orders, so that the same contexts see other bits.
    ahead = bits_of([[97, 98, 99] * 3, [97, 99, 98], []])
    ways = (bits_of([[97, 98, 97, 98, 99], [98], [97, 97]]), bits_of([[99, 98, 97, 97], [], [97, 98, 98, 99]]))

    def assert_apart(self, looks, ahead, foreteller, fork):
        """Each goes its own way, step by step, as one that was always alone."""
        alone = that_saw(looks, ahead), that_saw(looks, ahead)
        for one, other in zip(*self.ways, strict=True):
            self.assertEqual(told_by(foreteller), told_by(alone[0]))
            self.assertEqual(told_by(fork), told_by(alone[1]))
            for which, bit in ((foreteller, one), (alone[0], one), (fork, other), (alone[1], other)):
                which.see(bit)
        self.assertEqual(told_by(foreteller), told_by(alone[0]))
        self.assertEqual(told_by(fork), told_by(alone[1]))

    def test_foretells_the_same(self):
        for looks in ROWS_OF_LOOKS:
            foreteller = that_saw(looks, self.ahead)
            fork = foreteller.fork()
            self.assertIs(type(fork), Foreteller)
            self.assertIsNot(fork, foreteller)
            for bit in bits_of(TEXTS):
                self.assertEqual(told_by(fork), told_by(foreteller))
                fork.see(bit)
                foreteller.see(bit)

    def test_of_one_that_has_seen_nothing(self):
        for looks in ROWS_OF_LOOKS:
            foreteller = Foreteller(looks)
            self.assert_apart(looks, [], foreteller, foreteller.fork())

    def test_neither_changes_the_other(self):
        for looks in ROWS_OF_LOOKS:
            with self.subTest(looks=looks):
                foreteller = that_saw(looks, self.ahead)
                self.assert_apart(looks, self.ahead, foreteller, foreteller.fork())
                foreteller = that_saw(looks, self.ahead)
                self.assert_apart(looks, self.ahead, foreteller.fork(), foreteller)

    def test_made_at_each_decision(self):
        looks = [("even", ()), ("quick", (1,)), ("run", (1, 2))]
        for many in range(len(self.ahead) + 1):
            ahead = self.ahead[:many]
            foreteller = that_saw(looks, ahead)
            self.assert_apart_at(looks, ahead, foreteller, foreteller.fork())

    def assert_apart_at(self, looks, ahead, foreteller, fork):
        """One goes on, the other one stays; then that one goes on."""
        stayed = told_by(fork)
        self.assertEqual(told_by(foreteller), stayed)
        for bit in self.ways[0]:
            foreteller.see(bit)
        self.assertEqual(told_by(fork), stayed)
        gone = told_by(foreteller)
        self.assertEqual(gone, told_by(that_saw(looks, ahead + self.ways[0])))
        for bit in self.ways[1]:
            fork.see(bit)
        self.assertEqual(told_by(foreteller), gone)
        self.assertEqual(told_by(fork), told_by(that_saw(looks, ahead + self.ways[1])))

    def test_of_a_fork_and_of_several(self):
        for looks in (LOOKS, [("run", (1,))], [("even", ())] * 2):
            for many in (0, 1, 4, 9, 10, 30, len(self.ahead)):
                ahead = self.ahead[:many]
                foreteller = that_saw(looks, ahead)
                fork = foreteller.fork()
                other, again = foreteller.fork(), fork.fork()
                self.assert_apart(looks, ahead, fork, again)
                self.assert_apart(looks, ahead, foreteller, other)
                last = again.fork()
                again.see(1)
                last.see(0)
                self.assertEqual(told_by(again), told_by(that_saw(looks, ahead + self.ways[1] + [1])))
                self.assertEqual(told_by(last), told_by(that_saw(looks, ahead + self.ways[1] + [0])))

    def test_lists_told_by_a_fork_are_its_own(self):
        foreteller = that_saw(LOOKS, bits_of([[97, 98]])[:-1])
        fork = foreteller.fork()
        for told in (fork.signs(), fork.weights(), fork.chances()):
            told.clear()
        self.assertEqual(told_by(foreteller), told_by(fork))
        self.assertEqual(fork.signs(), [97, 98])
        kept = foreteller.signs()
        for bit in decisions_of([5])[:-1]:
            fork.see(bit)
        self.assertEqual((foreteller.signs(), fork.signs(), kept), ([97, 98], [97, 98, 5], [97, 98]))

    def test_forking_changes_nothing(self):
        for looks in (LOOKS, [("even", (1,))]):
            foreteller, quiet = Foreteller(looks), Foreteller(looks)
            for bit in bits_of(TEXTS):
                fork = foreteller.fork()
                self.assertEqual(told_by(fork), told_by(foreteller))
                fork.see(1 - bit)
                foreteller.see(bit)
                quiet.see(bit)
                self.assertEqual(told_by(foreteller), told_by(quiet))


class TestRefusals(unittest.TestCase):
    def test_no_looks(self):
        for thing in no_looks():
            assert_refused(self, "NoLooks", lambda: Foreteller(thing))

    def test_no_bit_and_it_goes_on_as_one_that_was_never_refused(self):
        things = no_bits()
        for looks in (LOOKS, [("even", ())], [("quick", (1,)), ("run", (1, 2))]):
            foreteller, quiet = Foreteller(looks), Foreteller(looks)
            for many, bit in enumerate(bits_of(TEXTS)):
                ahead = told_by(foreteller)
                for thing in things if many % 9 < 3 else things[:8]:
                    assert_refused(self, "NoBit", lambda: foreteller.see(thing))
                self.assertEqual(told_by(foreteller), ahead)
                foreteller.see(bit)
                quiet.see(bit)
                self.assertEqual(told_by(foreteller), told_by(quiet))

    def test_no_bit_of_a_fork(self):
        foreteller = that_saw(LOOKS, bits_of([[97, 98]])[:-4])
        fork = foreteller.fork()
        for thing in no_bits():
            assert_refused(self, "NoBit", lambda: fork.see(thing))
        self.assertEqual(told_by(fork), told_by(foreteller))


if __name__ == "__main__":
    unittest.main()
