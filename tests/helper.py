"""What several tests need: things of other kinds, refusals, rows of steps, texts."""

from foretell import errors
from foretell.decisions import decisions_of, nodes_of
from foretell.foretellers import Foreteller
from foretell.numbers import LEAST, ONE
from foretell.pressing import pressed
from foretell.spans import Span

NAMES = (
    "NoLooks", "NoText", "NoBytes", "NoChance", "NoBit", "NoName", "NoPress", "NoMost",
    "TooLong", "Taken", "NoPiece", "Full", "InUse", "NoShelf", "NoWords",
)

KINDS = ("even", "quick", "run")
LOOKS = [("even", ()), ("quick", (1,)), ("run", (1, 2)), ("even", (2, 4)), ("quick", (1, 2, 3, 8)), ("run", ())]


class Touchy:
    """A thing that can't be compared, measured or walked."""

    def refuse(self, *others):
        raise RuntimeError("touched")

    __eq__ = __lt__ = __le__ = __gt__ = __ge__ = __len__ = __iter__ = __bool__ = __repr__ = refuse
    __hash__ = None


def looped():
    thing = []
    thing.append(thing)
    return thing


def no_numbers():
    """Things of many kinds, none of which is a whole number."""
    return [
        True, False, None, "", "1", "a", [], [1], [0], (), (1,), {}, {1: 1}, set(), {1}, 1.0, 0.0, 0.5,
        float("nan"), float("inf"), 1 + 0j, b"", b"\x01", bytearray(b"\x01"), range(2), object(), int, len,
        Touchy(), looped(), iter([1]), Ellipsis,
    ]


def no_lists():
    """Things of many kinds, none of which is a list."""
    return [
        True, False, None, 0, 1, 255, 2 ** 70, "", "abc", (), (1, 2), {}, {1: 2}, set(), {1}, b"", b"abc",
        bytearray(b"abc"), range(3), iter([1]), 1.5, object(), list, Touchy(),
    ]


def no_chances():
    return [0, 1, LEAST - 1, ONE - LEAST + 1, ONE, -LEAST, -1, 2 ** 70, 2 ** 20000] + no_numbers()


def no_bits():
    return [-1, 2, 255, LEAST, ONE // 2, 2 ** 70, 2 ** 20000, -2 ** 70] + no_numbers()


def bad_lists(most):
    """Lists that are none of at most so many signs: a part is no sign, or there are too many."""
    rows = [[0] * (most + 1), [255] * (most + 2), [1] * 20000]
    for part in [256, -1, 2 ** 70, -2 ** 70, LEAST] + no_numbers():
        rows.extend([[part], [part, 1, 2], [1, part, 2], [1, 2, part]])
    return rows


def no_texts():
    return no_lists() + bad_lists(1000)


def no_learned():
    """Things of all kinds that are no learned texts; None and the list of none are some."""
    things = [thing for thing in no_lists() if thing is not None]
    things += [([1], [2]), ([],), {"a": [1]}, [1, 2, 3], [0], ["abc"], [None], [()], [(1, 2)], [[[1]]], [[[]]]]
    things.append(looped())
    for thing in no_texts():
        things.extend([[thing], [[1, 2], thing], [thing, [1, 2]], [[]] * 9 + [thing]])
    return things


def no_bytes():
    return no_lists() + bad_lists(12000)


def no_mosts():
    """Things of all kinds, none of which is a whole number from 0 to 1000."""
    return [-1, -1000, 1001, 1002, 12000, LEAST, 2 ** 70, -2 ** 70, 2 ** 20000] + no_numbers()


def no_names():
    """Things of all kinds, none of which is a text of one to eight small letters."""
    texts = [
        "", " ", "  ", "abcdefghi", "aaaaaaaaaa", "a" * 5000, "A", "Z", "aB", "Ab", "abcdefgH", "ABC", "a1", "1", "0",
        "a b", " a", "a ", "a\n", "\n", "\na", "a\t", "a\x00", "a_b", "_", "a-b", "-", "a.b", "`", "{", "@", "[",
        "a\u0301", "\u00e4", "\u00df", "\u00aa", "\u0131", "\uff41", "\u0430", "ab\u00e9", "\U0001d41a", "\ud800",
    ]
    things = [
        True, False, 0, 1, -1, 97, 1.5, [], ["a"], ["a", "b"], (), ("a",), {}, {"a": 1}, set(), {"a"}, b"", b"a",
        b"abc", bytearray(b"a"), range(3), iter("a"), str, len, object(), Touchy(), looped(), Ellipsis, 2 ** 70,
        float("nan"),
    ]
    return texts + things


def no_kinds():
    return [
        "", "Even", "EVEN", "even ", " run", "runs", "ru", "slot", "quick\n", "evenquick", 0, 1, 2, -1, True, False,
        None, 0.5, b"even", bytearray(b"run"), ("even",), ["even"], {"even": "even"}, {"even"}, list("run"), [], {},
        set(), str, object(), Touchy(), looped(), iter("even"), Ellipsis,
    ]


def no_places():
    rows = [
        None, True, 0, 1, 8, "", "12", [], [1], [1, 2], {}, {1: 2}, set(), {1}, range(1, 3), b"\x01", object(), Touchy(),
        looped(), iter((1,)), (1, 2, 3, 4, 5), (1, 2, 3, 4, 5, 6, 7, 8), (1,) * 1000, (2, 1), (1, 3, 2), (8, 1),
        (4, 3, 2, 1), (1, 1), (8, 8), (1, 2, 2), (1, 2, 2, 3), (0,), (9,), (0, 1), (8, 9), (1, 9), (-1,), (-1, 1),
        (256,), (2 ** 70,), ((1,),), ((1, 2),), ("1",), ("a", "b"), (1, "2"), (True,), (True, 2), (False, True),
    ]
    for thing in no_numbers():
        rows.extend([(thing,), (1, thing), (thing, 8)])
    return rows


def no_look_things():
    """Things of all kinds, none of which is a look."""
    things = [
        (), ("even",), ("even", (1,), 1), ("even", (1,), None), ((1,), "even"), ["even", (1,)], ["even", ()],
        {"even": (1,)}, "even", "ev", None, True, 0, 1, ((), ()), (("even", ()),), ("even", 1, 2), [("even", ())],
        object(), Touchy(), looped(), {"even", ()}, range(2), b"ev",
    ]
    things.extend((kind, places) for kind in no_kinds() for places in ((), (1,)))
    things.extend((kind, places) for kind in KINDS for places in no_places())
    return things


def no_looks():
    """Things of all kinds that are no looks: no list, of no looks, of too many, one of them none."""
    things = no_lists() + [[], [("even", ())] * 7, [("run", (1, 2))] * 1000, ("even", (1,)), (("even", ()),)]
    for thing in no_look_things():
        things.extend([[thing], [("quick", (1, 2)), thing]])
    return things


def assert_refused(case, name, call):
    """The call raises the very class of this name, and so none of the others."""
    with case.assertRaises(ValueError) as caught:
        call()
    case.assertIs(type(caught.exception), getattr(errors, name))
    case.assertIsInstance(caught.exception, errors.ForetellError)
    for other in NAMES:
        if other != name:
            case.assertNotIsInstance(caught.exception, getattr(errors, other))


def numbers_from(seed):
    """The same row of numbers below 2 ** 32 for the same seed, on each Python."""
    state = seed
    while True:
        state = (state * 6364136223846793005 + 1442695040888963407) % 2 ** 64
        yield state >> 32


def mixed_bits(seed, many):
    numbers = numbers_from(seed)
    return [next(numbers) % 2 for _ in range(many)]


def mixed_signs(seed, many):
    """Signs of all sorts: at the ends of the range, amid it, alike running."""
    numbers = numbers_from(seed)
    signs = []
    for _ in range(many):
        pick = next(numbers) % 4
        signs.append((0, 255, next(numbers) % 256, 97 + next(numbers) % 3)[pick])
    return signs


def mixed_steps(seed, many):
    """Chances and bits of all sorts: both ends of the range, the middle, the numbers beside these, others."""
    edges = [LEAST, LEAST + 1, ONE // 2 - 1, ONE // 2, ONE // 2 + 1, ONE - LEAST - 1, ONE - LEAST]
    numbers = numbers_from(seed)
    steps = []
    for _ in range(many):
        if next(numbers) % 2:
            chance = edges[next(numbers) % len(edges)]
        else:
            chance = LEAST + next(numbers) % (ONE - 2 * LEAST + 1)
        steps.append((chance, next(numbers) % 2))
    return steps


def likely_steps(seed, many):
    """Bits that come about as often as their chances tell: most steps narrow by little."""
    numbers = numbers_from(seed)
    steps = []
    for _ in range(many):
        chance = LEAST + next(numbers) % (ONE - 2 * LEAST + 1)
        steps.append((chance, 1 if next(numbers) % ONE < chance else 0))
    return steps


def rows_of_steps():
    """Rows of many steps, by name."""
    rows = {f"mixed {seed}": mixed_steps(seed, 400) for seed in range(4)}
    rows.update({f"likely {seed}": likely_steps(seed, 400) for seed in range(4)})
    for chance in (LEAST, LEAST + 1, 100003, ONE // 3, ONE // 2, ONE - ONE // 3, ONE - LEAST - 1, ONE - LEAST):
        for bit in (0, 1):
            rows[f"{chance} with {bit}"] = [(chance, bit)] * 400
    rows["least with 1, long"] = [(LEAST, 1)] * 1200
    rows["most with 0, long"] = [(ONE - LEAST, 0)] * 1200
    rows["half, in turn"] = [(ONE // 2, k % 2) for k in range(400)]
    rows["around the middle"] = around_the_middle(400)
    return rows


def narrowed(steps):
    span = Span()
    for chance, bit in steps:
        span.narrow(chance, bit)
    return span


def number_of(row):
    return int.from_bytes(bytes(row), "big")


def around_the_middle(many):
    """Steps that keep the row 128, 0, 0 .. and the one just ahead within the span: no byte is ever settled."""
    low, width, size = 0, 2 ** 40, 5
    steps = []
    for _ in range(many):
        ahead = 128 * 256 ** (size - 1) - low
        chance = min(max(ahead * ONE // width + 2, LEAST), ONE - LEAST)
        bit = 1 if width * chance // ONE > ahead else 0
        steps.append((chance, bit))
        low, width, size = plain_step((low, width, size), chance, bit)
        if not low < 128 * 256 ** (size - 1) < low + width:
            raise RuntimeError("the middle was lost")
    return steps


def plain_step(ends, chance, bit):
    """Point 5's own step."""
    low, width, size = ends
    cut = width * chance // ONE
    if bit == 1:
        width = cut
    else:
        low, width = low + cut, width - cut
    while width < 2 ** 32:
        low, width, size = low * 256, width * 256, size + 1
    return (low, width, size)


def steps_of(text):
    """The signs ahead, the node and the bit of each decision of a text."""
    rows = zip(nodes_of(text), decisions_of(text))
    return [(text[:many // 9], node, bit) for many, (node, bit) in enumerate(rows)]


def given(chance, bit):
    return chance if bit == 1 else ONE - chance


def product_given(chances, bits):
    product = 1
    for chance, bit in zip(chances, bits):
        product *= given(chance, bit)
    return product


def worth_of_row(row, rows, bits):
    """H * (31 * K + 1) ** s of point 4, for one row of looks: numbers from 0 on, one for each decision."""
    stays = sum(look == other for look, other in zip(row, row[1:]))
    many = len(rows[0])
    return product_given([chances[look] for look, chances in zip(row, rows)], bits) * (31 * many + 1) ** stays


def worth_of_best_row(rows, bits):
    """The most of these over all rows of looks: for each look the best one that ends with it, decision by decision."""
    many = len(rows[0])
    best = [given(chance, bits[0]) for chance in rows[0]]
    for chances, bit in zip(rows[1:], bits[1:]):
        most = max(best)
        best = [max(most, best[k] * (31 * many + 1)) * given(chances[k], bit) for k in range(many)]
    return max(best)


def mixed_worth(chances, many, bits):
    """2 * G * (32 * K) ** n of point 4, of the mixed chances of so many looks."""
    return 2 * product_given(chances, bits) * (32 * many) ** len(bits)


def taught(looks, learned):
    """A foreteller that has seen all these texts."""
    foreteller = Foreteller(looks)
    for text in learned:
        for bit in decisions_of(text):
            foreteller.see(bit)
    return foreteller


SOME_LOOKS = [
    [("even", ())], [("run", (1,))], [("quick", (1, 2))], LOOKS, LOOKS[:2], [("even", (1,))] * 3,
    [("run", (1, 2, 3, 4)), ("quick", ()), ("even", (8,))],
]
TEXTS = [
    [], [0], [255], [97], [97, 97], [0, 255], [97, 98, 97, 98, 97, 98], [7] * 40, mixed_signs(1, 30), list(range(40)),
]
LEARNED = [
    [], [[]], [[97, 98]], [[], []], [[97, 98], [97, 98, 97, 98]], [[7] * 10, [], [97], mixed_signs(1, 20)],
    [[97, 98, 97]] * 5, [mixed_signs(1, 30)],
]


def cases():
    """Looks, a text and learned texts, each with each."""
    return [(looks, text, learned) for looks in SOME_LOOKS for text in TEXTS for learned in LEARNED]


# Pieces of a store: names of one to eight letters, texts of none and of some signs, bases that stand on bases.
PIECES = [
    ("a", [97, 98, 97, 98], None), ("bc", [97, 98, 97, 98, 99], "a"), ("z", [], None), ("abcdefgh", [97, 98, 99], "bc"),
    ("d", [0, 255], "a"), ("zzzzzzzz", [97, 98, 99, 97], "abcdefgh"), ("e", [], "z"), ("on", [255, 0, 255], "d"),
]


class PlainStore:
    """What a store must tell by the words of points 17 and 19: names, texts and bases, kept as they are."""

    def __init__(self, looks, most=1000):
        self.looks, self.most, self.pieces, self.known = list(looks), most, {}, {}

    def put(self, name, text, base=None):
        self.pieces[name] = (list(text), base)

    def drop(self, name):
        del self.pieces[name]

    def learned_on(self, base):
        return [] if base is None else self.learned_on(self.pieces[base][1]) + [list(self.pieces[base][0])]

    def bytes_on(self, text, base):
        """The text pressed with what it stands on; kept, as it is asked for often."""
        learned = self.learned_on(base)
        key = (tuple(text), tuple(map(tuple, learned)))
        if key not in self.known:
            self.known[key] = pressed(self.looks, text, learned)
        return list(self.known[key])

    def best_base(self, text):
        bases = [None] + list(self.pieces)
        return min(bases, key=lambda base: (len(self.bytes_on(text, base)), bases.index(base)))

    def told(self, name):
        text, base = self.pieces[name]
        return (text, self.bytes_on(text, base), base, self.learned_on(base))

    def shelf(self):
        """Byte by byte, by the words of point 19."""
        row = [len(self.looks)]
        for kind, places in self.looks:
            row += [{"even": 0, "quick": 1, "run": 2}[kind], len(places), *places]
        row += [self.most // 256, self.most % 256, len(self.pieces)]
        for name, (text, base) in self.pieces.items():
            row += [len(name)] + [ord(letter) - ord("a") for letter in name]
            row += [0 if base is None else list(self.pieces).index(base) + 1] + self.bytes_on(text, base)
        return row


def with_pieces(store, pieces):
    for name, text, base in pieces:
        store.put(name, text, base)
    return store


def told_of(store, name):
    return (store.text_of(name), store.bytes_of(name), store.base_of(name), store.learned_of(name))


def assert_same_store(case, store, plain):
    """The store tells the same as the plain one, asked in one order and in the other."""
    names = list(plain.pieces)
    case.assertEqual(store.told_looks(), plain.looks)
    case.assertEqual(store.most_signs(), plain.most)
    case.assertEqual(store.names(), names)
    for name in names + names[::-1]:
        case.assertEqual(told_of(store, name), plain.told(name))
