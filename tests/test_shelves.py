import unittest

from foretell.errors import NoShelf
from foretell.numbers import is_sign
from foretell.pressing import pressed
from foretell.shelves import opened, shelf_of
from foretell.stores import Store
from tests.helper import (
    KINDS, LOOKS, PIECES, SOME_LOOKS, PlainStore, assert_refused, assert_same_store, bad_lists, mixed_signs, no_lists,
    numbers_from, told_of, with_pieces,
)

EVEN = [("even", ())]
SOME = LOOKS[:3]
FEW = [("a", [97, 98], None), ("bc", [97, 98], "a"), ("z", [], None), ("d", [97], "bc")]
MANY_LOOKS = SOME_LOOKS + [[(kind, (1, 3, 5, 8)[:many])] for kind in KINDS for many in range(5)]


def small_shelf():
    """Of few signs at most, so that wrong bytes are read no farther than that."""
    return shelf_of(with_pieces(Store([("quick", (1, 2)), ("even", ())], 4), FEW))


class TestShelf(unittest.TestCase):
    def test_by_hand(self):
        self.assertEqual(shelf_of(Store(EVEN)), [1, 0, 0, 3, 232, 0])
        self.assertEqual(shelf_of(Store([("run", (1, 2, 3, 8)), ("quick", (4,))], 255)), [
            2, 2, 4, 1, 2, 3, 8, 1, 1, 4, 0, 255, 0,
        ])
        store = Store(EVEN, 256)
        store.put("az", [])
        store.put("y", [], "az")
        store.put("abcdefgh", [])
        store.put("x", [], "y")
        self.assertEqual(shelf_of(store), [
            1, 0, 0, 1, 0, 4, 2, 0, 25, 0, 128, 1, 24, 1, 64, 8, 0, 1, 2, 3, 4, 5, 6, 7, 0, 128, 1, 23, 2, 43,
        ])

    def test_byte_by_byte(self):
        for looks in MANY_LOOKS:
            for most in (5, 255, 256, 300, 1000):
                store, plain = Store(looks, most), PlainStore(looks, most)
                self.assertEqual(shelf_of(store), plain.shelf())
                for name, text, base in PIECES:
                    store.put(name, text, base)
                    plain.put(name, text, base)
                shelf = shelf_of(store)
                self.assertEqual(shelf, plain.shelf())
                self.assertTrue(type(shelf) is list and all(is_sign(byte) for byte in shelf))

    def test_most_by_two_bytes(self):
        for most in (0, 1, 255, 256, 257, 511, 512, 767, 768, 999, 1000):
            self.assertEqual(shelf_of(Store(EVEN, most))[3:5], [most // 256, most % 256])

    def test_names_of_each_length_and_letter(self):
        letters = "abcdefghijklmnopqrstuvwxyz"
        names = [letters[many:2 * many] for many in range(1, 8)] + [letters[k:k + 8] for k in range(0, 26, 8)]
        for looks in (EVEN, SOME):
            pieces = [(name, [7], names[k // 2] if k else None) for k, name in enumerate(names)]
            plain = with_pieces(PlainStore(looks, 3), pieces)
            self.assertEqual(shelf_of(with_pieces(Store(looks, 3), pieces)), plain.shelf())
            assert_same_store(self, opened(plain.shelf()), plain)

    def test_behind_dropping(self):
        store, plain = with_pieces(Store(SOME), PIECES), with_pieces(PlainStore(SOME), PIECES)
        for name in ("zzzzzzzz", "e", "z"):
            store.drop(name)
            plain.drop(name)
            self.assertEqual(shelf_of(store), plain.shelf())
        for made in (store, plain):
            made.put("z", [5, 5], "on")
        self.assertEqual(shelf_of(store), plain.shelf())
        assert_same_store(self, opened(shelf_of(store)), plain)

    def test_is_a_new_list_and_changes_nothing(self):
        store, plain = with_pieces(Store(SOME), PIECES), with_pieces(PlainStore(SOME), PIECES)
        shelf = shelf_of(store)
        kept = list(shelf)
        self.assertEqual(shelf_of(store), shelf)
        shelf.clear()
        self.assertEqual(shelf_of(store), kept)
        assert_same_store(self, store, plain)


class TestOpened(unittest.TestCase):
    def test_tells_the_same_of_all(self):
        for looks in MANY_LOOKS:
            for most in (5, 256, 1000):
                plain = with_pieces(PlainStore(looks, most), PIECES)
                store = opened(plain.shelf())
                self.assertIs(type(store), Store)
                assert_same_store(self, store, plain)
                self.assertEqual(shelf_of(store), plain.shelf())
                for text in ([97, 98, 97], [0, 255], []):
                    self.assertEqual(store.best_base(text), plain.best_base(text))

    def test_an_empty_store(self):
        for looks in MANY_LOOKS:
            for most in (0, 255, 256, 1000):
                store = opened(shelf_of(Store(looks, most)))
                self.assertEqual((store.told_looks(), store.most_signs(), store.names()), (looks, most, []))
                self.assertEqual(shelf_of(store), shelf_of(Store(looks, most)))

    def test_opened_again_and_again(self):
        shelf = shelf_of(with_pieces(Store(SOME), PIECES))
        for _ in range(3):
            self.assertEqual(shelf_of(opened(shelf)), shelf)
            shelf = shelf_of(opened(shelf))

    def test_goes_on_like_any_store(self):
        store, plain = opened(shelf_of(with_pieces(Store(SOME, 9), PIECES))), with_pieces(PlainStore(SOME, 9), PIECES)
        assert_refused(self, "Taken", lambda: store.put("a", [1]))
        assert_refused(self, "TooLong", lambda: store.put("new", [1] * 10))
        assert_refused(self, "NoPiece", lambda: store.put("new", [1], "none"))
        assert_refused(self, "InUse", lambda: store.drop("a"))
        for made in (store, plain):
            made.put("new", [97, 98, 97], "zzzzzzzz")
            made.drop("on")
            made.put("newer", [1], "new")
        assert_same_store(self, store, plain)
        self.assertEqual(shelf_of(store), plain.shelf())

    def test_the_one_and_the_other_are_two(self):
        store = with_pieces(Store(SOME), FEW)
        shelf = shelf_of(store)
        first, second = opened(shelf), opened(shelf)
        first.put("new", [1], "d")
        store.put("other", [2])
        self.assertEqual(second.names(), ["a", "bc", "z", "d"])
        self.assertEqual(first.names(), ["a", "bc", "z", "d", "new"])
        self.assertEqual(store.names(), ["a", "bc", "z", "d", "other"])
        second.drop("d")
        self.assertEqual(first.text_of("new"), [1])
        self.assertEqual(shelf_of(opened(shelf)), shelf)

    def test_what_is_handed_in_may_be_changed(self):
        store = with_pieces(Store(SOME), FEW)
        data = shelf_of(store)
        made = opened(data)
        self.assertEqual(data, shelf_of(store))
        data.clear()
        self.assertEqual(shelf_of(made), shelf_of(store))
        self.assertEqual(told_of(made, "d"), told_of(store, "d"))
        bad = shelf_of(store) + [0]
        kept = list(bad)
        assert_refused(self, "NoShelf", lambda: opened(bad))
        self.assertEqual(bad, kept)

    def test_sixty_pieces(self):
        store = Store(EVEN, 3)
        for number in range(60):
            store.put("abc"[number // 26] + "abcdefghijklmnopqrstuvwxyz"[number % 26], [number])
        made = opened(shelf_of(store))
        self.assertEqual(made.names(), store.names())
        self.assertEqual(shelf_of(made), shelf_of(store))
        assert_refused(self, "Full", lambda: made.put("new", [1]))
        made.drop(made.names()[7])
        made.put("new", [1])

    def test_long_texts(self):
        text = mixed_signs(3, 1000)
        store = with_pieces(Store(LOOKS[:2]), [("a", text, None), ("b", text, "a"), ("c", [0] * 1000, "b")])
        made = opened(shelf_of(store))
        self.assertEqual([told_of(made, name) for name in "abc"], [told_of(store, name) for name in "abc"])


class TestNoShelf(unittest.TestCase):
    def refused(self, data):
        assert_refused(self, "NoShelf", lambda: opened(data))

    def assert_shelf_or_refused(self, data):
        """Whatever is opened can be made by putting pieces, and then has just this shelf."""
        try:
            store = opened(data)
        except NoShelf:
            return False
        again = Store(store.told_looks(), store.most_signs())
        for name in store.names():
            again.put(name, store.text_of(name), store.base_of(name))
        self.assertEqual(shelf_of(again), data)
        self.assertEqual(shelf_of(store), data)
        return True

    def test_other_things_than_bytes(self):
        for thing in no_lists() + [row for row in bad_lists(30) if len(row) < 30]:
            self.refused(thing)
        shelf = small_shelf()
        self.refused(tuple(shelf))
        self.refused(bytes(shelf))
        self.refused(bytearray(shelf))
        self.refused("".join(map(chr, shelf)))
        for part in (None, True, 256, -1, "a", [1], 1.0, object()):
            for place in range(len(shelf)):
                self.refused(shelf[:place] + [part] + shelf[place + 1:])
            self.refused(shelf + [part])
        # Truths are no bytes, even where they count as the byte that should stand there.
        for place, byte in enumerate(shelf):
            if byte < 2:
                self.refused(shelf[:place] + [byte == 1] + shelf[place + 1:])
            self.refused(shelf[:place] + [float(byte)] + shelf[place + 1:])

    def test_nothing(self):
        self.refused([])

    def test_bytes_lacking(self):
        for shelf in (small_shelf(), shelf_of(with_pieces(Store(SOME, 5), PIECES)), shelf_of(Store(LOOKS))):
            for many in range(len(shelf)):
                self.refused(shelf[:many])

    def test_bytes_behind(self):
        for shelf in (small_shelf(), shelf_of(Store(SOME))):
            for byte in range(256):
                self.refused(shelf + [byte])
            for tail in ([0] * 9, [255] * 9, shelf, [1, 0, 0, 128]):
                self.refused(shelf + tail)

    def test_each_byte_exchanged(self):
        shelf = small_shelf()
        taken = 0
        for place, byte in enumerate(shelf):
            for other in {(byte + 1) % 256, (byte - 1) % 256, byte ^ 128, byte ^ 64, 0, 1, 2, 5, 255} - {byte}:
                taken += self.assert_shelf_or_refused(shelf[:place] + [other] + shelf[place + 1:])
        self.assertGreater(taken, 0)

    def test_each_byte_left_out(self):
        for shelf in (small_shelf(), shelf_of(with_pieces(Store(EVEN, 5), PIECES))):
            for place in range(len(shelf)):
                self.assert_shelf_or_refused(shelf[:place] + shelf[place + 1:])

    def test_each_byte_put_in(self):
        shelf = small_shelf()
        for place in range(len(shelf) + 1):
            for byte in (0, 1, 2, 97, 128, 255):
                self.assert_shelf_or_refused(shelf[:place] + [byte] + shelf[place:])

    def test_any_bytes(self):
        numbers = numbers_from(6)
        for _ in range(300):
            tail = [next(numbers) % (4 if next(numbers) % 2 else 256) for _ in range(next(numbers) % 12)]
            self.assert_shelf_or_refused([1, 0, 0, 0, 3, 1, 1, 5] + tail)
            self.assert_shelf_or_refused(tail)

    def test_all_rows_of_one_byte_for_a_piece(self):
        # Of all rows of one byte just that of the empty text is a piece's.
        for byte in range(256):
            shelf = [1, 0, 0, 0, 3, 1, 1, 0, 0, byte]
            self.assertEqual(self.assert_shelf_or_refused(shelf), byte == 128)

    def test_looks_that_can_not_be(self):
        tail = [3, 232, 0]
        opened([1, 0, 0] + tail)
        self.refused([0] + tail)
        self.refused([7] + [0, 0] * 7 + tail)
        self.refused([255] + [0, 0] * 255 + tail)
        for kind in (3, 4, 97, 255):
            self.refused([1, kind, 0] + tail)
            self.refused([2, 0, 0, kind, 0] + tail)
        for places in (
            [0], [9], [255], [1, 1], [2, 1], [1, 9], [0, 1], [1, 2, 2], [8, 7], [1, 2, 3, 3], [4, 3, 2, 1],
            [1, 2, 3, 4, 5], [1, 2, 3, 4, 5, 6, 7, 8],
        ):
            self.refused([1, 1, len(places)] + places + tail)
            self.refused([2, 0, 0, 2, len(places)] + places + tail)

    def test_most_that_can_not_be(self):
        self.assertEqual(opened([1, 0, 0, 3, 232, 0]).most_signs(), 1000)
        for great, rest in ((3, 233), (3, 234), (3, 255), (4, 0), (4, 232), (128, 0), (255, 255)):
            self.refused([1, 0, 0, great, rest, 0])

    def test_names_that_can_not_be(self):
        head = [1, 0, 0, 3, 232, 1]
        opened(head + [8, 0, 1, 2, 3, 4, 5, 6, 25, 0, 128])
        self.refused(head + [0, 0, 128])
        self.refused(head + [9, 0, 1, 2, 3, 4, 5, 6, 7, 8, 0, 128])
        self.refused(head + [200] + [3] * 200 + [0, 128])
        for letter in (26, 27, 97, 255):
            self.refused(head + [1, letter, 0, 128])
            self.refused(head + [3, 0, letter, 1, 0, 128])

    def test_a_name_twice(self):
        head = [1, 0, 0, 3, 232, 2]
        self.assertEqual(opened(head + [1, 4, 0, 128, 1, 5, 0, 128]).names(), ["e", "f"])
        self.refused(head + [1, 4, 0, 128, 1, 4, 0, 128])
        self.refused(head + [1, 4, 0, 128, 1, 4, 1, 64])
        self.refused([1, 0, 0, 3, 232, 3] + [1, 4, 0, 128, 2, 4, 4, 0, 128, 1, 4, 0, 128])

    def test_bases_that_can_not_be(self):
        # A base must stand ahead: not the piece itself, none behind.
        for base in range(1, 256):
            self.refused([1, 0, 0, 3, 232, 1, 1, 4, base, 128])
            self.refused([1, 0, 0, 3, 232, 1, 1, 4, base, 64])
        for base in range(2, 256):
            self.refused([1, 0, 0, 3, 232, 2, 1, 4, 0, 128, 1, 5, base, 64])
            self.refused([1, 0, 0, 3, 232, 2, 1, 4, 0, 128, 1, 5, base, 43])
        self.refused([1, 0, 0, 3, 232, 2, 1, 5, 2, 64, 1, 4, 0, 128])
        self.assertEqual(opened([1, 0, 0, 3, 232, 2, 1, 4, 0, 128, 1, 5, 1, 64]).base_of("f"), "e")

    def test_another_base_than_pressed_with(self):
        # Pressed with nothing, said to stand on a piece; and the other way round.
        self.refused([1, 0, 0, 3, 232, 2, 1, 4, 0, 128, 1, 5, 1, 128])
        self.refused([1, 0, 0, 3, 232, 2, 1, 4, 0, 128, 1, 5, 0, 64])

    def test_bytes_that_are_more_than_need_be(self):
        # 129 to 255 lie in the span of the empty text, but are not the least; two bytes are not the fewest.
        self.refused([1, 0, 0, 3, 232, 1, 1, 4, 0, 129])
        self.refused([1, 0, 0, 3, 232, 1, 1, 4, 0, 128, 0])

    def test_a_text_of_more_than_most_signs(self):
        for text in ([1, 2, 3, 4], [0] * 9):
            shelf = shelf_of(with_pieces(Store(EVEN, len(text)), [("a", [], None), ("b", text, "a")]))
            self.assertEqual(opened(shelf).text_of("b"), text)
            self.assertEqual(opened(shelf[:4] + [len(text) + 1] + shelf[5:]).text_of("b"), text)
            for most in (len(text) - 1, 1, 0):
                self.refused(shelf[:4] + [most] + shelf[5:])

    def test_sixty_one_pieces(self):
        names = [[1, k] for k in range(26)] + [[2, 0, k] for k in range(26)] + [[2, 1, k] for k in range(9)]
        head = [1, 0, 0, 3, 232]
        sixty = head + [60] + sum([name + [0, 128] for name in names[:60]], [])
        self.assertEqual(len(opened(sixty).names()), 60)
        self.refused(head + [61] + sum([name + [0, 128] for name in names], []))
        self.refused(head + [61] + sixty[6:])
        self.refused(head + [59] + sixty[6:])

    def test_another_number_of_pieces(self):
        shelf = shelf_of(with_pieces(Store(EVEN, 5), PIECES))
        self.assertEqual(shelf[5], len(PIECES))
        for many in range(256):
            if many != len(PIECES):
                self.refused(shelf[:5] + [many] + shelf[6:])

    def test_pieces_in_another_order(self):
        pieces = {name: pressed(EVEN, text, learned) for name, text, learned in (
            ("a", [1, 2], []), ("b", [1, 2], [[1, 2]]),
        )}
        head = [1, 0, 0, 3, 232, 2]
        self.assertEqual(opened(head + [1, 0, 0] + pieces["a"] + [1, 1, 1] + pieces["b"]).text_of("b"), [1, 2])
        self.refused(head + [1, 1, 2] + pieces["b"] + [1, 0, 0] + pieces["a"])


if __name__ == "__main__":
    unittest.main()
