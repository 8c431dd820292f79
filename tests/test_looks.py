import itertools
import unittest

from foretell.looks import Book, checked_looks, context_of
from foretell.numbers import ONE, is_chance, is_whole
from foretell.slots import slot_of
from tests.helper import (
    KINDS, LOOKS, assert_refused, mixed_bits, mixed_signs, no_bits, no_lists, no_look_things, steps_of,
)

HALF = ONE // 2


def all_places():
    return [places for many in range(5) for places in itertools.combinations(range(1, 9), many)]


class TestCheckedLooks(unittest.TestCase):
    def refused(self, thing):
        assert_refused(self, "NoLooks", lambda: checked_looks(thing))

    def test_each_look(self):
        for kind in KINDS:
            for places in all_places():
                self.assertEqual(checked_looks([(kind, places)]), [(kind, places)])

    def test_one_to_six_perhaps_alike(self):
        row = [(kind, places) for places in ((), (1,), (1, 2, 3, 8)) for kind in KINDS]
        for many in range(1, 7):
            for looks in (row[:many], row[-many:], [("run", (2, 8))] * many):
                told = checked_looks(looks)
                self.assertEqual(told, looks)
                self.assertIs(type(told), list)

    def test_none_and_seven(self):
        self.refused([])
        for look in (("even", ()), ("run", (1, 2))):
            for many in (7, 8, 1000):
                self.refused([look] * many)

    def test_no_list(self):
        for thing in no_lists() + [(("even", ()),), {("even", ()): 1}, {("even", ())}, "even", ("even", (1,))]:
            self.refused(thing)

    def test_one_that_is_no_look(self):
        good = ("quick", (1, 2))
        for thing in no_look_things():
            for looks in ([thing], [thing, good], [good, thing], [good] * 5 + [thing]):
                self.refused(looks)

    def test_what_is_refused_stays_and_is_taken_when_mended(self):
        looks = [("even", ()), ("run", [1])]
        self.refused(looks)
        self.assertEqual(looks, [("even", ()), ("run", [1])])
        looks[1] = ("run", (1,))
        self.assertEqual(checked_looks(looks), looks)

    def test_a_new_list_is_told(self):
        looks = [("even", ()), ("quick", (1,)), ("run", (1, 2))]
        kept = list(looks)
        told, again = checked_looks(looks), checked_looks(looks)
        self.assertIsNot(told, looks)
        self.assertIsNot(told, again)
        told.append("more")
        told[0] = None
        self.assertEqual((looks, again), (kept, kept))
        looks.clear()
        self.assertEqual(again, kept)


def plain_context(places, signs, node):
    """With eight places of none ahead of all signs, each place back is there."""
    row = [256] * 8 + signs
    return tuple(row[len(row) - place] for place in places) + (node,)


class TestContext(unittest.TestCase):
    def test_by_hand(self):
        signs = [10, 20, 30, 40, 50, 60, 70, 80, 90]
        self.assertEqual(context_of(("even", ()), signs, 0), (0,))
        self.assertEqual(context_of(("even", ()), [], 255), (255,))
        self.assertEqual(context_of(("even", (1,)), signs, 7), (90, 7))
        self.assertEqual(context_of(("run", (1, 2, 8)), signs, 7), (90, 80, 20, 7))
        self.assertEqual(context_of(("run", (1, 2, 8)), signs[:8], 7), (80, 70, 10, 7))
        self.assertEqual(context_of(("run", (1, 2, 8)), signs[:7], 7), (70, 60, 256, 7))
        self.assertEqual(context_of(("quick", (1, 3)), [5], 1), (5, 256, 1))
        self.assertEqual(context_of(("quick", (2, 3, 4, 5)), [5], 1), (256, 256, 256, 256, 1))
        self.assertEqual(context_of(("quick", (1, 2, 3, 4)), [], 0), (256, 256, 256, 256, 0))

    def test_all_places_with_few_and_many_signs(self):
        row = mixed_signs(1, 1000)
        for places in all_places():
            for many in list(range(11)) + [100, 1000]:
                signs, kept = row[:many], row[:many]
                for kind, node in zip(KINDS, (0, 1, 255)):
                    told = context_of((kind, places), signs, node)
                    self.assertEqual(told, plain_context(places, kept, node))
                    self.assertIs(type(told), tuple)
                    self.assertTrue(all(is_whole(part) for part in told))
                self.assertEqual(signs, kept)

    def test_what_is_done_to_the_signs_later_changes_nothing(self):
        signs = [1, 2, 3]
        told = context_of(("even", (1, 2)), signs, 9)
        signs.clear()
        self.assertEqual(told, (3, 2, 9))


def mixed_contexts(seed, many):
    """Few contexts, so that each comes again and again, in no order."""
    signs = mixed_signs(seed, many)
    bits = mixed_bits(seed + 1, many)
    return [([sign % 3] * (sign % 4), sign % 2, bit) for sign, bit in zip(signs, bits)]


class TestBook(unittest.TestCase):
    texts = [mixed_signs(2, 60), [97, 98, 99] * 30, [0] * 40 + [255] * 40, [], [7]]

    def assert_follows(self, look, steps):
        book, slots = Book(look), {}
        for signs, node, bit in steps:
            context = plain_context(look[1], signs, node)
            slot = slots.setdefault(context, slot_of(look[0]))
            kept = list(signs)
            chance = book.chance(signs, node)
            self.assertTrue(is_chance(chance))
            self.assertEqual(chance, slot.chance())
            self.assertIsNone(book.seen(signs, node, bit))
            self.assertEqual(signs, kept)
            slot.seen(bit)
            self.assertEqual(book.chance(signs, node), slot.chance())

    def test_of_nothing_seen(self):
        for look in LOOKS:
            book = Book(look)
            for signs in ([], [0], [255] * 9, mixed_signs(3, 1000)):
                for node in (0, 1, 128, 255):
                    self.assertEqual(book.chance(signs, node), HALF)

    def test_the_chance_is_that_of_a_slot_that_saw_the_bits_of_this_context(self):
        for look in LOOKS:
            with self.subTest(look=look):
                for text in self.texts:
                    self.assert_follows(look, steps_of(text))
                self.assert_follows(look, [step for text in self.texts for step in steps_of(text)])
                self.assert_follows(look, mixed_contexts(4, 1500))
                self.assert_follows(look, [([5], 3, 1)] * 300 + [([5], 3, 0)] * 5)

    def test_contexts_do_not_touch_one_another(self):
        for kind in KINDS:
            book = Book((kind, (1, 3)))
            for bit in (1, 1, 0, 1):
                book.seen([1, 2, 3], 6, bit)
            seen = book.chance([1, 2, 3], 6)
            self.assertNotEqual(seen, HALF)
            # The signs at the places 2 and 4 are not looked at.
            self.assertEqual(book.chance([9, 1, 200, 3], 6), seen)
            for signs, node in (([1, 2, 3], 7), ([1, 2, 4], 6), ([2, 2, 3], 6), ([2, 3], 6), ([3, 2, 1], 6), ([], 6)):
                self.assertEqual(book.chance(signs, node), HALF)
                book.seen(signs, node, 0)
            self.assertEqual(book.chance([1, 2, 3], 6), seen)

    def test_no_sign_is_none_of_the_signs(self):
        book = Book(("even", (1, 2)))
        book.seen([], 0, 1)
        for sign in (0, 1, 255):
            self.assertEqual(book.chance([sign], 0), HALF)
            self.assertEqual(book.chance([sign, sign], 0), HALF)
        self.assertEqual(book.chance([], 0), 3 * ONE // 4)

    def test_two_books_of_the_same_look(self):
        for look in LOOKS:
            first, second = Book(look), Book(look)
            for signs, node, bit in mixed_contexts(6, 200):
                first.seen(signs, node, bit)
            for signs, node, bit in mixed_contexts(6, 200):
                self.assertEqual(second.chance(signs, node), HALF)
            kept = [first.chance(signs, node) for signs, node, bit in mixed_contexts(6, 200)]
            for signs, node, bit in mixed_contexts(6, 200):
                second.seen(signs, node, 1 - bit)
            self.assertEqual([first.chance(signs, node) for signs, node, bit in mixed_contexts(6, 200)], kept)

    def test_the_signs_handed_in_may_be_changed_later(self):
        for kind in KINDS:
            book, signs = Book((kind, (1, 2))), [4, 5]
            book.chance(signs, 2)
            book.seen(signs, 2, 1)
            told = book.chance([4, 5], 2)
            self.assertEqual(told, slot_told(kind, [1]))
            signs.append(6)
            self.assertEqual(book.chance([4, 5], 2), told)
            self.assertEqual(book.chance(signs, 2), HALF)
            book.seen(signs, 2, 0)
            signs.clear()
            self.assertEqual(book.chance([4, 5], 2), told)
            self.assertEqual(book.chance([4, 5, 6], 2), slot_told(kind, [0]))
            self.assertEqual(book.chance([], 2), HALF)

    def test_asking_changes_nothing(self):
        for look in LOOKS:
            book, quiet = Book(look), Book(look)
            for signs, node, bit in mixed_contexts(8, 300):
                for others, other, _ in mixed_contexts(9, 6):
                    book.chance(others, other)
                    book.chance(others, node)
                self.assertEqual(book.chance(signs, node), book.chance(signs, node))
                book.seen(signs, node, bit)
                quiet.seen(signs, node, bit)
                self.assertEqual(book.chance(signs, node), quiet.chance(signs, node))

    def test_no_bit_and_nothing_is_changed(self):
        for look in LOOKS:
            book, quiet = Book(look), Book(look)
            for signs, node, bit in mixed_contexts(10, 40):
                for thing in no_bits():
                    assert_refused(self, "NoBit", lambda: book.seen(signs, node, thing))
                    self.assertEqual(book.chance(signs, node), quiet.chance(signs, node))
                book.seen(signs, node, bit)
                quiet.seen(signs, node, bit)


def slot_told(kind, bits):
    slot = slot_of(kind)
    for bit in bits:
        slot.seen(bit)
    return slot.chance()


if __name__ == "__main__":
    unittest.main()
