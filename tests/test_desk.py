import unittest

from foretell.desk import Desk, hex_of
from foretell.errors import ForetellError
from foretell.shelves import opened, shelf_of
from foretell.stores import Store
from foretell.telling import cost
from tests.helper import (
    LOOKS, PIECES, SOME_LOOKS, PlainStore, Touchy, assert_refused, mixed_signs, no_looks, no_mosts, no_names,
    numbers_from, with_pieces,
)

EVEN = [("even", ())]
SOME = LOOKS[:3]
ONE_NAME = ("get", "bytes", "base", "drop", "cost")


def plain_hex(signs):
    return bytes(signs).hex()


def row_of(name, text, base):
    return f"put {name} {plain_hex(text)}" if base is None else f"put {name} on {base} {plain_hex(text)}"


def laid(desk, pieces=PIECES):
    for name, text, base in pieces:
        desk.say(row_of(name, text, base))
    return desk


def shelf_of_desk(desk):
    return desk.say("shelf")


class TestHex(unittest.TestCase):
    def test_hex(self):
        self.assertEqual(hex_of([]), "")
        self.assertEqual(hex_of([0]), "00")
        self.assertEqual(hex_of([0, 1, 15, 16, 171, 255]), "00010f10abff")
        self.assertEqual(hex_of(list(range(256))), plain_hex(range(256)))
        self.assertEqual(hex_of([7] * 13000), "07" * 13000)
        signs = [1, 2]
        self.assertIs(type(hex_of(signs)), str)
        self.assertEqual(signs, [1, 2])


class TestMaking(unittest.TestCase):
    def test_of_looks_and_most(self):
        for looks in SOME_LOOKS:
            for most in (0, 5, 256, 1000):
                self.assertEqual(Desk(looks, most).say("shelf"), plain_hex(shelf_of(Store(looks, most))))
        self.assertEqual(Desk(EVEN).say("shelf"), "01000003e800")
        self.assertEqual(Desk(EVEN, most=7).say("shelf"), "010000000700")

    def test_refuses_as_a_store(self):
        for thing in no_looks():
            assert_refused(self, "NoLooks", lambda: Desk(thing))
        for thing in no_mosts():
            assert_refused(self, "NoMost", lambda: Desk(EVEN, thing))
        for most in (None, -1, Touchy()):
            assert_refused(self, "NoLooks", lambda: Desk(None, most))

    def test_looks_may_be_changed_behind(self):
        looks = list(SOME)
        desk = Desk(looks)
        looks.clear()
        self.assertEqual(desk.say("shelf"), plain_hex(shelf_of(Store(SOME))))


class TestRows(unittest.TestCase):
    def test_a_day_at_the_desk(self):
        desk = Desk(EVEN)
        self.assertEqual(desk.say("names"), "")
        self.assertEqual(desk.say("best "), "-")
        self.assertEqual(desk.say("put a "), "ok")
        self.assertEqual(desk.say("put b on a "), "ok")
        self.assertEqual(desk.say("put on on b 00ff"), "ok")
        self.assertEqual(desk.say("names"), "a b on")
        self.assertEqual([desk.say(f"get {name}") for name in ("a", "b", "on")], ["", "", "00ff"])
        self.assertEqual([desk.say(f"bytes {name}") for name in "ab"], ["80", "40"])
        self.assertEqual([desk.say(f"base {name}") for name in ("a", "b", "on")], ["-", "a", "b"])
        self.assertEqual([desk.say(f"cost {name}") for name in "ab"], ["1", "1"])
        self.assertEqual(desk.say("drop on"), "ok")
        self.assertEqual(desk.say("names"), "a b")
        self.assertEqual(desk.say("shelf"), "01000003e802" + "01000080" + "01010140")
        self.assertEqual(desk.say("open 010000000500"), "ok")
        self.assertEqual(desk.say("names"), "")
        self.assertEqual(desk.say("shelf"), "010000000500")

    def test_each_row_answers_as_the_store(self):
        for looks in SOME_LOOKS:
            desk, plain = laid(Desk(looks)), with_pieces(PlainStore(looks), PIECES)
            self.assertEqual(desk.say("names"), "a bc z abcdefgh d zzzzzzzz e on")
            for name, text, base in PIECES:
                self.assertEqual(desk.say(f"get {name}"), plain_hex(text))
                self.assertEqual(desk.say(f"bytes {name}"), plain_hex(plain.told(name)[1]))
                self.assertEqual(desk.say(f"base {name}"), "-" if base is None else base)
                self.assertEqual(desk.say(f"cost {name}"), str(cost(looks, text, plain.learned_on(base))))
            for text in ([], [97, 98, 97, 98], [255] * 6, [0, 255, 3]):
                best = plain.best_base(text)
                self.assertEqual(desk.say(f"best {plain_hex(text)}"), "-" if best is None else best)
            self.assertEqual(desk.say("shelf"), plain_hex(plain.shelf()))

    def test_each_answer_is_a_text(self):
        desk = Desk(SOME)
        rows = [row_of(*piece) for piece in PIECES] + [f"{verb} a" for verb in ("get", "bytes", "base", "cost")]
        rows += ["drop on", "names", "best ", "best 6162", "shelf", "open " + plain_hex(shelf_of(Store(EVEN))), "names"]
        for row in rows:
            self.assertIs(type(desk.say(row)), str)

    def test_best_tells_a_piece(self):
        desk = laid(Desk(SOME), [("a", [7] * 20, None), ("b", mixed_signs(5, 20), None)])
        self.assertEqual(desk.say("best " + plain_hex(mixed_signs(5, 20))), "b")
        self.assertEqual(desk.say("best " + plain_hex([7] * 20)), "a")

    def test_the_cost_with_its_learned_texts(self):
        text = mixed_signs(6, 30)
        desk = laid(Desk(SOME), [("a", text, None), ("b", text, "a")])
        self.assertEqual(desk.say("cost a"), str(cost(SOME, text)))
        self.assertEqual(desk.say("cost b"), str(cost(SOME, text, [text])))
        self.assertNotEqual(desk.say("cost a"), desk.say("cost b"))

    def test_hex_of_many_signs(self):
        text = mixed_signs(7, 1000)
        desk = Desk(EVEN)
        self.assertEqual(desk.say("put long " + plain_hex(text)), "ok")
        self.assertEqual(desk.say("get long"), plain_hex(text))
        self.assertEqual(desk.say("put longer on long " + plain_hex(text)), "ok")
        self.assertEqual(desk.say("get longer"), plain_hex(text))
        self.assertEqual(desk.say("put all " + plain_hex(range(256))), "ok")
        self.assertEqual(desk.say("get all"), plain_hex(range(256)))
        self.assertIn(desk.say("best " + plain_hex(text)), ("-", "long", "longer", "all"))

    def test_words_as_names(self):
        desk = Desk(EVEN, 5)
        words = ("on", "put", "get", "bytes", "base", "drop", "names", "cost", "best", "shelf", "open", "ok")
        for word in words:
            self.assertEqual(desk.say(f"put {word} 61"), "ok")
        self.assertEqual(desk.say("put ff on on 61"), "ok")
        self.assertEqual(desk.say("put aa on ff aa"), "ok")
        self.assertEqual(desk.say("names"), " ".join(words) + " ff aa")
        self.assertEqual((desk.say("base ff"), desk.say("base aa"), desk.say("get aa")), ("on", "ff", "aa"))
        for word in words:
            self.assertEqual(desk.say(f"get {word}"), "61")

    def test_two_desks_side_by_side(self):
        first, second = Desk(SOME), Desk(SOME)
        first.say("put a 6162")
        self.assertEqual((first.say("names"), second.say("names")), ("a", ""))
        second.say("open " + first.say("shelf"))
        second.say("put b on a 61")
        self.assertEqual((first.say("names"), second.say("names")), ("a", "a b"))


class TestOpen(unittest.TestCase):
    def test_the_store_is_the_one_opened(self):
        desk = laid(Desk(EVEN, 6))
        shelf = desk.say("shelf")
        other = Desk(SOME)
        other.say("put old 6162")
        self.assertEqual(other.say("open " + shelf), "ok")
        self.assertEqual(other.say("shelf"), shelf)
        self.assertEqual(other.say("names"), desk.say("names"))
        for name, text, _ in PIECES:
            for verb in ("get", "bytes", "base", "cost"):
                self.assertEqual(other.say(f"{verb} {name}"), desk.say(f"{verb} {name}"))
        assert_refused(self, "NoPiece", lambda: other.say("get old"))
        # Its looks and its most are the opened one's, too.
        assert_refused(self, "TooLong", lambda: other.say("put new 01020304050607"))
        self.assertEqual(other.say("put new 0102"), "ok")
        self.assertEqual(desk.say("put new 0102"), "ok")
        self.assertEqual(other.say("shelf"), desk.say("shelf"))

    def test_its_own_shelf(self):
        desk = laid(Desk(SOME))
        shelf = desk.say("shelf")
        self.assertEqual(desk.say("open " + shelf), "ok")
        self.assertEqual(desk.say("shelf"), shelf)

    def test_what_is_refused_leaves_the_store(self):
        desk = laid(Desk(EVEN, 6))
        shelf = desk.say("shelf")
        for row in (
            "", "00", shelf[:-2], shelf + "00", "ff" * 100, "07" + shelf[2:], shelf[2:], shelf[:10] + "00" + shelf[12:],
        ):
            assert_refused(self, "NoShelf", lambda: desk.say("open " + row))
            self.assertEqual(desk.say("shelf"), shelf)
        for row in (shelf[:-1], shelf.upper().replace("0", "A"), shelf + " ", " " + shelf, shelf + "g"):
            assert_refused(self, "NoWords", lambda: desk.say("open " + row))
            self.assertEqual(desk.say("shelf"), shelf)
        self.assertEqual(desk.say("get zzzzzzzz"), "61626361")


class TestNoWords(unittest.TestCase):
    def setUp(self):
        self.desk = laid(Desk(EVEN, 9))
        self.ahead = shelf_of_desk(self.desk)

    def tearDown(self):
        self.assertEqual(shelf_of_desk(self.desk), self.ahead)

    def refused(self, name, row):
        with self.subTest(row=row if type(row) is str else None):
            assert_refused(self, name, lambda: self.desk.say(row))
            self.assertEqual(shelf_of_desk(self.desk), self.ahead)

    def test_other_things_than_texts(self):
        for thing in (
            None, True, False, 0, 1, 5, -1, 1.5, [], ["names"], ["get", "a"], (), ("names",), {}, {"names": 1}, set(),
            {"names"}, b"names", b"get a", bytearray(b"shelf"), range(3), object(), str, len, Touchy(), iter("names"),
            Ellipsis, 2 ** 70, [1, 2, 3], float("nan"),
        ):
            self.refused("NoWords", thing)

    def test_no_words(self):
        for row in ("", " ", "  ", "   ", " " * 9, "\n", "\t", "-", "ok", "a", "00", "on", "help", "list", "-- "):
            self.refused("NoWords", row)

    def test_words_that_are_none(self):
        for row in (
            "puts a 00", "pu a 00", "Put a 00", "PUT a 00", "GET a", "Get a", "Names", "NAMES", "Shelf", "SHELF",
            "name", "shelfs", "gets a", "byte a", "bases a", "drops a", "costs a", "bests 00", "opens 00", "opened 00",
            "set a", "put a On bc 00", "put a ON bc 00", "put new in a 00", "put new onto a 00", "put new o a 00",
            "put new  a 00", "get new on a 00", "puts new on a 00", "Put new on a 00", "best new on a 00",
            "get a 00", " new on a 00", "get\ta", "get\na", "put\tnew\t00", "names\n", "names\t",
            "\nnames", "shelf\n", "names\x00", "namesshelf",
        ):
            self.refused("NoWords", row)

    def test_no_blank(self):
        for row in ("put", "get", "bytes", "base", "drop", "cost", "best", "open"):
            self.refused("NoWords", row)
        for row in ("puta00", "geta", "put a", "put new", "best00", "open00"):
            self.refused("NoWords", row)
        for row in ("put new on", "put new on a", "put new on a00", "put newon a 00", "put new ona 00", "put on"):
            self.refused("NoWords", row)

    def test_a_blank_too_many(self):
        for row in ("names ", " names", "shelf ", " shelf", "names a", "shelf 00", "names names", "  names", "shelf  "):
            self.refused("NoWords", row)
        for verb in ONE_NAME:
            for row in (f"{verb} a ", f" {verb} a", f"{verb}  a", f"{verb} a b", f"{verb}  ", f"{verb} a  "):
                self.refused("NoWords", row)
        for verb in ("best", "open"):
            for row in (f"{verb} 00 ", f" {verb} 00", f"{verb}  00", f"{verb} 00 00", f"{verb}  ", f"{verb} a 00"):
                self.refused("NoWords", row)
        for row in (
            " put new 00", "put new 00 ", "put  new 00", "put new  00", "put new   ", "put new on a 00 ",
            "put  new on a 00", "put new  on a 00", "put new on a  00", " put new on a 00", "put new on a 00 00",
            "put new 00 00", "put new 00 on a", "put new on a on bc 00", "put new on on", "put new on ", "put ",
            "put new a 00", "put new a",
        ):
            self.refused("NoWords", row)

    def test_hex_that_is_none(self):
        for word in (
            "0", "000", "0g", "g0", "A0", "0A", "FF", "fF", "0x00", "0x", "-1", "+1", "1.", "1_0_", "00\n", "\n\n",
            "0\n", "zz", "ok", "on", "00,00", "0" * 2001, "ab" * 500 + "G1", "\x00\x00", "a\u0301", "\u0661\u0662",
            "\uff11\uff12", "\u00b2\u00b2",
        ):
            for row in (f"put new {word}", f"put new on a {word}", f"best {word}", f"open {word}"):
                self.refused("NoWords", row)

    def test_no_words_ahead_of_all_other_refusals(self):
        for row in (
            "put A 0", "put  0", "put a 0", "put a on none 0", "put a on A 0g", "put  on  0", "get A b", "drop none ",
            "best " + "0" * 2003,
        ):
            self.refused("NoWords", row)

    def test_names_of_no_signs(self):
        for verb in ONE_NAME:
            self.refused("NoName", f"{verb} ")
        for row in ("put  00", "put  ", "put  on a 00", "put  on a ", "put  on  00", "put  on  "):
            self.refused("NoName", row)
        for row in ("put new on  00", "put new on  "):
            self.refused("NoName", row)

    def test_no_names(self):
        for word in [thing for thing in no_names() if type(thing) is str and " " not in thing]:
            for verb in ONE_NAME:
                self.refused("NoName", f"{verb} {word}")
            for row in (f"put {word} 00", f"put {word} ", f"put {word} on a 00", f"put new on {word} 00"):
                self.refused("NoName", row)

    def test_refused_as_by_the_store(self):
        for verb in ONE_NAME:
            self.refused("NoPiece", f"{verb} none")
        self.refused("NoPiece", "put new on none 00")
        self.refused("NoPiece", "put new on new 00")
        self.refused("Taken", "put a 00")
        self.refused("Taken", "put a on bc 00")
        self.refused("InUse", "drop a")
        self.refused("TooLong", "put new " + "00" * 10)
        self.refused("TooLong", "best " + "00" * 10)
        self.refused("NoText", "put new " + "00" * 1001)
        self.refused("NoText", "put new on a " + "00" * 1001)
        self.refused("NoText", "best " + "00" * 1001)
        self.refused("NoShelf", "open ")
        self.refused("NoShelf", "open 00")

    def test_the_first_due_of_several(self):
        long, longer = "00" * 10, "00" * 1001
        self.refused("NoName", f"put A {longer}")
        self.refused("NoName", f"put A on B {long}")
        self.refused("NoText", f"put new on B {longer}")
        self.refused("NoText", f"put a on none {longer}")
        self.refused("NoName", f"put a on B {long}")
        self.refused("TooLong", f"put a on none {long}")
        self.refused("Taken", "put a on none 00")
        self.refused("NoPiece", "put new on none 00")

    def test_full(self):
        for number in range(60 - len(PIECES)):
            self.desk.say("put " + "xy"[number // 26] + "abcdefghijklmnopqrstuvwxyz"[number % 26] + " 00")
        self.ahead = shelf_of_desk(self.desk)
        self.refused("Full", "put new 00")
        self.refused("Full", "put new on a 00")
        self.refused("Full", "put new ")
        self.refused("NoPiece", "put new on none 00")
        self.refused("Taken", "put a 00")
        self.desk.say("drop xa")
        self.assertEqual(self.desk.say("put new 00"), "ok")
        self.ahead = shelf_of_desk(self.desk)
        self.refused("Full", "put newer 00")


class TestManyRows(unittest.TestCase):
    def test_the_desk_does_what_a_store_does(self):
        for seed in range(3):
            self.assert_rows(seed)

    def assert_rows(self, seed):
        numbers = numbers_from(seed)
        desk, store = Desk(SOME, 4), Store(SOME, 4)
        names, words = ["a", "b", "cd", "efghijkl", "", "A"], ["", "61", "6162", "61626162", "0102030405", "f", "FF"]
        for _ in range(150):
            name, base = names[next(numbers) % 6], names[next(numbers) % 6]
            word, pick = words[next(numbers) % 7], next(numbers) % 7
            row, call = [
                (f"put {name} {word}", lambda: store.put(name, self.signs(word))),
                (f"put {name} on {base} {word}", lambda: store.put(name, self.signs(word), base)),
                (f"get {name}", lambda: store.text_of(name)),
                (f"drop {name}", lambda: store.drop(name)),
                (f"bytes {name}", lambda: store.bytes_of(name)),
                (f"base {name}", lambda: store.base_of(name)),
                (f"best {word}", lambda: store.best_base(self.signs(word))),
            ][pick]
            try:
                told = self.shown(call())
            except ForetellError as refusal:
                assert_refused(self, type(refusal).__name__, lambda: desk.say(row))
            except ValueError:
                assert_refused(self, "NoWords", lambda: desk.say(row))
            else:
                self.assertEqual(desk.say(row), ("ok" if row.split(" ")[0] in ("put", "drop") else told))
            self.assertEqual(desk.say("shelf"), plain_hex(shelf_of(store)))
        self.assertEqual(shelf_of(opened(list(bytes.fromhex(desk.say("shelf"))))), shelf_of(store))

    def signs(self, word):
        if word != word.lower():
            raise ValueError("not small")
        return list(bytes.fromhex(word))

    def shown(self, told):
        return "-" if told is None else told if type(told) is str else plain_hex(told)


if __name__ == "__main__":
    unittest.main()
