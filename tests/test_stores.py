import unittest

from foretell.numbers import ONE, is_sign, is_whole
from foretell.pressing import pressed, read
from foretell.shelves import shelf_of
from foretell.stores import Store, checked_name
from foretell.telling import by_looks, foretold
from tests.helper import (
    KINDS, LOOKS, PIECES, SOME_LOOKS, PlainStore, Touchy, assert_refused, assert_same_store, mixed_signs, mixed_worth,
    no_looks, no_mosts, no_names, no_texts, numbers_from, product_given, told_of, with_pieces, worth_of_best_row,
)

GOOD_NAMES = ["a", "z", "m", "ab", "on", "zz", "abcdefgh", "zzzzzzzz", "stuvwxyz", "ijklmnop", "qr", "none"]
EVEN = [("even", ())]
SOME = LOOKS[:3]


def name_at(number):
    """Sixty names and more, all unlike."""
    return "abcdefghij"[number // 10 % 10] + "klmnopqrst"[number % 10]


def full_store(many=60):
    store = Store(EVEN, 9)
    for number in range(many):
        store.put(name_at(number), [number], None if number == 0 else name_at(number // 2))
    return store


class TestNames(unittest.TestCase):
    def test_names(self):
        for name in GOOD_NAMES + [name_at(number) for number in range(60)]:
            self.assertEqual(checked_name(name), name)
            self.assertIs(type(checked_name(name)), str)
        for letter in "abcdefghijklmnopqrstuvwxyz":
            for many in range(1, 9):
                self.assertEqual(checked_name(letter * many), letter * many)
            assert_refused(self, "NoName", lambda: checked_name(letter * 9))
            assert_refused(self, "NoName", lambda: checked_name(letter.upper()))

    def test_no_names(self):
        for thing in no_names() + [None]:
            assert_refused(self, "NoName", lambda: checked_name(thing))

    def test_each_sign_that_is_no_small_letter(self):
        for number in range(700):
            if not 97 <= number <= 122:
                for name in (chr(number), "a" + chr(number), chr(number) + "a", "a" + chr(number) + "z"):
                    assert_refused(self, "NoName", lambda: checked_name(name))


class TestMaking(unittest.TestCase):
    def test_looks_and_most(self):
        for looks in SOME_LOOKS:
            for most in (0, 1, 255, 256, 999, 1000):
                store = Store(looks, most)
                self.assertEqual((store.told_looks(), store.most_signs(), store.names()), (looks, most, []))
                self.assertTrue(type(store.told_looks()) is list and is_whole(store.most_signs()))
        self.assertEqual(Store(EVEN).most_signs(), 1000)
        self.assertEqual(Store(EVEN, most=7).most_signs(), 7)

    def test_no_looks(self):
        for thing in no_looks():
            assert_refused(self, "NoLooks", lambda: Store(thing))

    def test_no_most(self):
        for thing in no_mosts():
            assert_refused(self, "NoMost", lambda: Store(EVEN, thing))

    def test_in_the_order_of_the_arguments(self):
        for looks in (None, [], Touchy()):
            for most in (5, None, -1, 1001, True, Touchy()):
                assert_refused(self, "NoLooks", lambda: Store(looks, most))

    def test_an_empty_store(self):
        store = Store(EVEN)
        self.assertEqual(store.names(), [])
        for asked in (store.text_of, store.bytes_of, store.base_of, store.learned_of, store.drop):
            assert_refused(self, "NoPiece", lambda: asked("a"))
        self.assertIsNone(store.best_base([1, 2, 3]))


class TestPieces(unittest.TestCase):
    def test_by_hand(self):
        store = Store(EVEN)
        self.assertIsNone(store.put("a", []))
        self.assertIsNone(store.put("b", [], "a"))
        self.assertIsNone(store.put("c", [], base="b"))
        self.assertEqual([store.bytes_of(name) for name in "abc"], [[128], [64], [43]])
        self.assertEqual([store.base_of(name) for name in "abc"], [None, "a", "b"])
        self.assertEqual([store.learned_of(name) for name in "abc"], [[], [[]], [[], []]])

    def test_text_bytes_base_and_learned_texts_of_each(self):
        for looks in SOME_LOOKS:
            store, plain = Store(looks), PlainStore(looks)
            for name, text, base in PIECES:
                self.assertIsNone(store.put(name, text, base))
                plain.put(name, text, base)
                assert_same_store(self, store, plain)

    def test_the_lowest_base_first(self):
        store = with_pieces(Store(SOME), PIECES)
        first, second, third = [97, 98, 97, 98], [97, 98, 97, 98, 99], [97, 98, 99]
        self.assertEqual(store.learned_of("zzzzzzzz"), [first, second, third])
        self.assertEqual(store.learned_of("abcdefgh"), [first, second])
        self.assertEqual(store.learned_of("a"), [])
        self.assertEqual(store.learned_of("e"), [[]])

    def test_kinds(self):
        store = with_pieces(Store(SOME), PIECES)
        for name, _, base in PIECES:
            for row in (store.text_of(name), store.bytes_of(name)):
                self.assertTrue(type(row) is list and all(is_sign(sign) for sign in row))
            learned = store.learned_of(name)
            self.assertTrue(type(learned) is list and all(type(text) is list for text in learned))
            self.assertTrue(store.base_of(name) is None if base is None else type(store.base_of(name)) is str)
        self.assertTrue(type(store.names()) is list and all(type(name) is str for name in store.names()))

    def test_the_bytes_are_pressed_and_are_read(self):
        store = with_pieces(Store(LOOKS, 12), PIECES)
        for name, text, _ in PIECES:
            data, learned = store.bytes_of(name), store.learned_of(name)
            self.assertEqual(data, pressed(LOOKS, text, learned))
            self.assertEqual(read(LOOKS, data, 12, learned), text)

    def test_asked_in_any_order(self):
        plain = with_pieces(PlainStore(SOME), PIECES)
        numbers = numbers_from(3)
        store = with_pieces(Store(SOME), PIECES)
        asked = {"text_of": 0, "bytes_of": 1, "base_of": 2, "learned_of": 3}
        for _ in range(400):
            name = PIECES[next(numbers) % len(PIECES)][0]
            question = sorted(asked)[next(numbers) % 4]
            self.assertEqual(getattr(store, question)(name), plain.told(name)[asked[question]])

    def test_each_question_first_behind_the_putting(self):
        plain = with_pieces(PlainStore(SOME), PIECES)
        for name, _, _ in PIECES:
            self.assertEqual(with_pieces(Store(SOME), PIECES).text_of(name), plain.told(name)[0])
            self.assertEqual(with_pieces(Store(SOME), PIECES).learned_of(name), plain.told(name)[3])
            store = with_pieces(Store(SOME), PIECES)
            store.text_of("on")
            store.put("last", [97, 98, 99], name)
            self.assertEqual(store.bytes_of("last"), plain.bytes_on([97, 98, 99], name))
            self.assertEqual(store.text_of("last"), [97, 98, 99])

    def test_the_bytes_hang_on_nothing_but_looks_and_the_texts_ahead(self):
        alone = with_pieces(Store(SOME, 20), [("x", [97, 98, 97, 98], None), ("y", [97, 98, 97, 98, 99], "x")])
        alone.put("w", [97, 98, 99], "y")
        store = with_pieces(Store(SOME), PIECES)
        for mine, other in (("x", "a"), ("y", "bc"), ("w", "abcdefgh")):
            self.assertEqual(alone.bytes_of(mine), store.bytes_of(other))

    def test_of_as_many_signs_as_there_may_be(self):
        text = mixed_signs(3, 1000)
        store = with_pieces(Store(LOOKS[:2]), [("a", text, None), ("b", text, "a"), ("c", [7] * 1000, "b")])
        self.assertEqual(store.text_of("c"), [7] * 1000)
        self.assertEqual(store.learned_of("c"), [text, text])
        self.assertLess(len(store.bytes_of("b")), len(store.bytes_of("a")))
        small = Store(EVEN, 3)
        small.put("a", [1, 2, 3])
        self.assertEqual(small.text_of("a"), [1, 2, 3])
        none = Store(EVEN, 0)
        none.put("a", [])
        none.put("b", [], "a")
        self.assertEqual((none.text_of("b"), none.learned_of("b")), ([], [[]]))

    def test_a_long_chain(self):
        store, plain = Store([("run", (1,))]), PlainStore([("run", (1,))])
        for number in range(60):
            text = mixed_signs(number, number % 7)
            for made in (store, plain):
                made.put(name_at(number), text, name_at(number - 1) if number else None)
        assert_same_store(self, store, plain)
        self.assertEqual(store.best_base(mixed_signs(20, 6)), plain.best_base(mixed_signs(20, 6)))

    def test_at_most_ten_bits_more_than_foretold(self):
        for kind in KINDS:
            store = with_pieces(Store([(kind, (1,)), (kind, ())]), PIECES)
            for name in store.names():
                steps = foretold(store.told_looks(), store.text_of(name), store.learned_of(name))
                product = product_given([chance for chance, _ in steps], [bit for _, bit in steps])
                self.assertLess(256 ** len(store.bytes_of(name)) * product, 1024 * ONE ** len(steps))

    def test_foretold_no_worse_than_by_any_row_of_looks(self):
        for looks in SOME_LOOKS:
            store = with_pieces(Store(looks), PIECES)
            for name in store.names():
                rows = by_looks(looks, store.text_of(name), store.learned_of(name))
                steps = foretold(looks, store.text_of(name), store.learned_of(name))
                bits = [bit for _, bit in steps]
                most = mixed_worth([chance for chance, _ in steps], len(looks), bits)
                self.assertLessEqual(worth_of_best_row(rows, bits), most)


class TestNamesAndDropping(unittest.TestCase):
    def test_names_in_the_order_of_putting(self):
        store = with_pieces(Store(SOME), PIECES)
        self.assertEqual(store.names(), [name for name, _, _ in PIECES])

    def test_one_put_again_is_last(self):
        store = with_pieces(Store(SOME), [("a", [1], None), ("b", [2], None), ("c", [3], None)])
        self.assertIsNone(store.drop("a"))
        self.assertEqual(store.names(), ["b", "c"])
        store.put("a", [4])
        self.assertEqual(store.names(), ["b", "c", "a"])
        store.drop("c")
        store.put("c", [5], "a")
        self.assertEqual(store.names(), ["b", "a", "c"])
        self.assertEqual((store.text_of("a"), store.text_of("c"), store.learned_of("c")), ([4], [5], [[4]]))

    def test_put_again_with_another_text(self):
        # Whatever was asked ahead, nothing of the dropped text is left.
        for asked in ("text_of", "learned_of", "bytes_of"):
            store = with_pieces(Store(SOME), [("a", [97, 98], None), ("b", [97, 98, 99], "a")])
            getattr(store, asked)("b")
            store.drop("b")
            store.put("b", [9, 9, 9, 9], "a")
            self.assertEqual(told_of(store, "b"), ([9] * 4, pressed(SOME, [9] * 4, [[97, 98]]), "a", [[97, 98]]))
            store.drop("b")
            store.drop("a")
            store.put("a", [5])
            store.put("b", [5, 5], "a")
            self.assertEqual(told_of(store, "b"), ([5, 5], pressed(SOME, [5, 5], [[5]]), "a", [[5]]))
            self.assertEqual(store.text_of("a"), [5])

    def test_put_again_with_another_base(self):
        store = with_pieces(Store(SOME), [("a", [97, 98], None), ("b", [97], "a"), ("c", [98], "b")])
        store.drop("c")
        store.put("c", [98], "a")
        self.assertEqual(told_of(store, "c"), ([98], pressed(SOME, [98], [[97, 98]]), "a", [[97, 98]]))
        store.drop("c")
        store.put("c", [98])
        self.assertEqual(told_of(store, "c"), ([98], pressed(SOME, [98]), None, []))

    def test_a_dropped_piece_is_none(self):
        store = with_pieces(Store(SOME), PIECES)
        store.drop("zzzzzzzz")
        for asked in (store.text_of, store.bytes_of, store.base_of, store.learned_of, store.drop):
            assert_refused(self, "NoPiece", lambda: asked("zzzzzzzz"))
        assert_refused(self, "NoPiece", lambda: store.put("new", [1], "zzzzzzzz"))

    def test_in_use(self):
        store, plain = with_pieces(Store(SOME), PIECES), with_pieces(PlainStore(SOME), PIECES)
        for name in ("a", "bc", "abcdefgh", "d", "z"):
            assert_refused(self, "InUse", lambda: store.drop(name))
        assert_same_store(self, store, plain)
        for name in ("zzzzzzzz", "abcdefgh", "bc", "on", "d", "a"):
            store.drop(name)
            plain.drop(name)
            assert_same_store(self, store, plain)
        self.assertEqual(store.names(), ["z", "e"])

    def test_many_deeds(self):
        for seed in range(4):
            self.assert_deeds(seed, SOME_LOOKS[seed])

    def assert_deeds(self, seed, looks):
        numbers = numbers_from(seed)
        store, plain = Store(looks, 8), PlainStore(looks, 8)
        texts = [[], [97], [97, 98, 97, 98], mixed_signs(seed, 8), [7] * 6]
        for _ in range(80):
            name, pick = "abcdefg"[next(numbers) % 7], next(numbers)
            if name not in plain.pieces:
                base = ([None] + list(plain.pieces))[pick % (len(plain.pieces) + 1)]
                for made in (store, plain):
                    made.put(name, texts[pick // 8 % 5], base)
            elif any(base == name for _, base in plain.pieces.values()):
                assert_refused(self, "InUse", lambda: store.drop(name))
            elif pick % 2:
                store.drop(name)
                plain.drop(name)
            else:
                self.assertEqual(store.best_base(texts[pick // 8 % 5]), plain.best_base(texts[pick // 8 % 5]))
            self.assertEqual(store.names(), list(plain.pieces))
            for asked in list(plain.pieces)[pick % 3::2]:
                self.assertEqual(told_of(store, asked), plain.told(asked))
        self.assertEqual(shelf_of(store), plain.shelf())


class TestRefusals(unittest.TestCase):
    def setUp(self):
        self.store = with_pieces(Store(EVEN, 5), PIECES)
        self.ahead = shelf_of(self.store)

    def refused(self, name, call):
        assert_refused(self, name, call)

    def tearDown(self):
        # What is refused changes nothing.
        self.assertEqual(shelf_of(self.store), self.ahead)
        assert_same_store(self, self.store, with_pieces(PlainStore(EVEN, 5), PIECES))

    def test_no_name(self):
        for thing in no_names() + [None]:
            self.refused("NoName", lambda: self.store.put(thing, [1]))
            self.refused("NoName", lambda: self.store.put(thing, [1], "a"))
            for asked in ("text_of", "bytes_of", "base_of", "learned_of", "drop"):
                self.refused("NoName", lambda: getattr(self.store, asked)(thing))

    def test_no_name_as_base(self):
        for thing in no_names():
            self.refused("NoName", lambda: self.store.put("new", [1], thing))

    def test_no_text(self):
        for thing in no_texts():
            self.refused("NoText", lambda: self.store.put("new", thing))
            self.refused("NoText", lambda: self.store.put("new", thing, "a"))
            self.refused("NoText", lambda: self.store.best_base(thing))

    def test_no_piece(self):
        for name in ("new", "b", "aa", "zz", "abcdefg", "none"):
            self.refused("NoPiece", lambda: self.store.put("new", [1], name))
            for asked in ("text_of", "bytes_of", "base_of", "learned_of", "drop"):
                self.refused("NoPiece", lambda: getattr(self.store, asked)(name))

    def test_a_piece_does_not_stand_on_itself(self):
        self.refused("NoPiece", lambda: self.store.put("new", [1], "new"))

    def test_too_long(self):
        for text in ([1] * 6, [1] * 1000):
            self.refused("TooLong", lambda: self.store.put("new", text))
            self.refused("TooLong", lambda: self.store.put("new", text, "a"))
            self.refused("TooLong", lambda: self.store.best_base(text))
        self.refused("NoText", lambda: self.store.best_base([1] * 1001))
        none = Store(EVEN, 0)
        self.refused("TooLong", lambda: none.put("a", [1]))
        self.refused("TooLong", lambda: none.best_base([1]))
        self.assertIsNone(none.best_base([]))

    def test_taken(self):
        for name, text, base in PIECES:
            self.refused("Taken", lambda: self.store.put(name, text, base))
            self.refused("Taken", lambda: self.store.put(name, [1]))

    def test_the_first_due_of_several(self):
        no_name, no_text, long, good = "A", [256], [1] * 6, [1]
        for text in (good, no_text, long, [1] * 1001):
            for base in (None, "a", "none", "A", 5, Touchy()):
                self.refused("NoName", lambda: self.store.put(no_name, text, base))
        for name in ("new", "a"):
            for base in (None, "a", "none", "A", 5, Touchy()):
                self.refused("NoText", lambda: self.store.put(name, no_text, base))
                self.refused("NoText", lambda: self.store.put(name, [1] * 1001, base))
            for text in (good, long):
                for base in ("A", "", 5, Touchy(), False):
                    self.refused("NoName", lambda: self.store.put(name, text, base))
            for base in (None, "a", "none"):
                self.refused("TooLong", lambda: self.store.put(name, long, base))
        for base in (None, "a", "none"):
            self.refused("Taken", lambda: self.store.put("a", good, base))
        self.refused("NoPiece", lambda: self.store.put("new", good, "none"))


class TestFull(unittest.TestCase):
    def test_sixty_pieces_and_no_more(self):
        store = full_store(59)
        store.put("last", [5], name_at(30))
        ahead = shelf_of(store)
        self.assertEqual(len(store.names()), 60)
        for base in (None, name_at(0), "last"):
            assert_refused(self, "Full", lambda: store.put("new", [1], base))
            assert_refused(self, "Full", lambda: store.put("new", [], base))
        self.assertEqual(shelf_of(store), ahead)
        self.assertEqual(store.text_of("last"), [5])

    def test_the_next_one_when_one_was_dropped(self):
        store = full_store()
        store.drop(name_at(59))
        store.put("new", [1, 2], name_at(40))
        self.assertEqual(store.names()[-1], "new")
        self.assertEqual(store.text_of("new"), [1, 2])
        assert_refused(self, "Full", lambda: store.put("newer", [1]))
        assert_refused(self, "InUse", lambda: store.drop(name_at(1)))
        assert_refused(self, "Full", lambda: store.put("newer", [1]))

    def test_behind_all_other_refusals(self):
        store = full_store()
        assert_refused(self, "NoName", lambda: store.put("A", [1]))
        assert_refused(self, "NoText", lambda: store.put("new", [256]))
        assert_refused(self, "NoName", lambda: store.put("new", [1], "A"))
        assert_refused(self, "TooLong", lambda: store.put("new", [1] * 10))
        assert_refused(self, "Taken", lambda: store.put(name_at(3), [1]))
        assert_refused(self, "NoPiece", lambda: store.put("new", [1], "none"))
        assert_refused(self, "Full", lambda: store.put("new", [1]))

    def test_all_is_told_of_a_full_store(self):
        store = full_store()
        for number in range(60):
            self.assertEqual(store.text_of(name_at(number)), [number])
        self.assertEqual(store.base_of(name_at(59)), name_at(29))
        self.assertEqual(store.learned_of(name_at(5)), [[0], [1], [2]])


class TestBestBase(unittest.TestCase):
    def test_is_that_of_the_fewest_bytes(self):
        texts = [text for _, text, _ in PIECES] + [[97, 98] * 6, [0, 255] * 5, mixed_signs(4, 15), [3]]
        for looks in SOME_LOOKS:
            store, plain = with_pieces(Store(looks), PIECES), with_pieces(PlainStore(looks), PIECES)
            for text in texts:
                self.assertEqual(store.best_base(text), plain.best_base(text))
            assert_same_store(self, store, plain)

    def test_a_piece_that_helps(self):
        text = mixed_signs(5, 30)
        store = with_pieces(Store(SOME), [("a", [7] * 30, None), ("b", text, None), ("c", [8] * 30, None)])
        self.assertEqual(store.best_base(text), "b")
        ahead = {name: len(pressed(SOME, text, [store.text_of(name)])) for name in "abc"}
        self.assertLess(ahead["b"], min(ahead["a"], ahead["c"]))
        store.put("d", text, store.best_base(text))
        self.assertEqual(store.best_base(text), "d")

    def test_none_where_it_is_as_good_as_a_piece(self):
        store = with_pieces(Store(EVEN), [("a", [], None), ("b", [], "a")])
        # Each of them by one byte.
        self.assertEqual([len(pressed(EVEN, [], [[]] * many)) for many in range(3)], [1, 1, 1])
        self.assertIsNone(store.best_base([]))

    def test_none_where_all_pieces_mislead(self):
        store = with_pieces(Store([("run", ())]), [("a", [0] * 30, None), ("b", [255] * 30, "a")])
        self.assertIsNone(store.best_base([170] * 20))

    def test_the_one_put_first_of_several_alike(self):
        text = mixed_signs(6, 20)
        store = with_pieces(Store(SOME), [("z", text, None), ("a", text, None), ("m", text, None)])
        self.assertEqual(store.best_base(text), "z")
        store.drop("z")
        self.assertEqual(store.best_base(text), "a")
        store.put("z", text)
        self.assertEqual(store.best_base(text), "a")
        store.drop("a")
        self.assertEqual(store.best_base(text), "m")

    def test_where_the_store_is_full(self):
        store = full_store(59)
        text = [250, 3, 250, 3, 250, 3, 250, 3, 250]
        store.put("last", text)
        self.assertEqual(store.best_base(text), "last")
        assert_refused(self, "Full", lambda: store.put("new", text, "last"))
        plain = PlainStore(EVEN, 9)
        for name in store.names():
            plain.put(name, store.text_of(name), store.base_of(name))
        self.assertEqual(store.best_base([5, 5]), plain.best_base([5, 5]))

    def test_asking_changes_nothing(self):
        store, plain = with_pieces(Store(SOME), PIECES), with_pieces(PlainStore(SOME), PIECES)
        for _ in range(3):
            store.best_base([97, 98, 99])
        assert_same_store(self, store, plain)
        store.put("new", [97, 98, 99], "on")
        plain.put("new", [97, 98, 99], "on")
        assert_same_store(self, store, plain)


class TestOwnLists(unittest.TestCase):
    def test_what_is_handed_in_may_be_changed(self):
        looks, text, other = list(SOME), [97, 98, 97], [97, 98]
        store = Store(looks)
        store.put("a", text)
        store.put("b", other, "a")
        self.assertEqual((looks, text, other), (SOME, [97, 98, 97], [97, 98]))
        looks.clear()
        text.append(5)
        other.clear()
        self.assertEqual(told_of(store, "b"), ([97, 98], pressed(SOME, [97, 98], [[97, 98, 97]]), "a", [[97, 98, 97]]))
        self.assertEqual((store.told_looks(), store.text_of("a")), (SOME, [97, 98, 97]))
        asked = [97, 98, 97]
        store.best_base(asked)
        self.assertEqual(asked, [97, 98, 97])

    def test_what_is_told_may_be_changed(self):
        store, plain = with_pieces(Store(SOME), PIECES), with_pieces(PlainStore(SOME), PIECES)
        for name in store.names() * 2:
            store.told_looks().clear()
            store.names().append("x")
            for row in (store.text_of(name), store.bytes_of(name), store.learned_of(name)):
                row.append(9)
                row.reverse()
            for text in store.learned_of(name):
                text.append(9)
            self.assertEqual(told_of(store, name), plain.told(name))
        assert_same_store(self, store, plain)

    def test_what_was_told_stays(self):
        store = with_pieces(Store(SOME), [("a", [1], None), ("b", [2], "a")])
        told = (store.names(), store.told_looks(), told_of(store, "b"))
        kept = (["a", "b"], list(SOME), ([2], pressed(SOME, [2], [[1]]), "a", [[1]]))
        store.put("c", [3], "b")
        store.drop("c")
        store.drop("b")
        store.put("b", [7, 7])
        self.assertEqual(told, kept)

    def test_two_stores_side_by_side(self):
        first, second = Store(SOME), Store(EVEN, 7)
        first.put("a", [1, 2])
        second.put("a", [3])
        first.put("b", [1, 2, 1], "a")
        second.put("c", [3, 3], "a")
        self.assertEqual((first.names(), second.names()), (["a", "b"], ["a", "c"]))
        self.assertEqual(told_of(first, "b"), ([1, 2, 1], pressed(SOME, [1, 2, 1], [[1, 2]]), "a", [[1, 2]]))
        self.assertEqual(told_of(second, "c"), ([3, 3], pressed(EVEN, [3, 3], [[3]]), "a", [[3]]))
        second.drop("c")
        assert_refused(self, "NoPiece", lambda: first.text_of("c"))
        assert_refused(self, "NoPiece", lambda: second.text_of("b"))
        self.assertEqual((first.text_of("a"), second.text_of("a")), ([1, 2], [3]))


if __name__ == "__main__":
    unittest.main()
