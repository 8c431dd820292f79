import unittest

from foretell.numbers import LEAST, ONE, gives, is_chance
from foretell.slots import Even, Quick, Run, Slot, slot_of
from tests.helper import assert_refused, mixed_bits, no_bits, numbers_from

HALF = 2 ** 23


def plain_even(bits):
    noughts = ones = 0
    for bit in bits:
        noughts, ones = noughts + (bit == 0), ones + (bit == 1)
        if noughts + ones > 255:
            noughts, ones = -(-noughts // 2), -(-ones // 2)
    return (2 * ones + 1) * ONE // (2 * (noughts + ones) + 2)


def plain_quick(bits):
    held = HALF
    for bit in bits:
        held = held + (ONE - held) // 16 if bit == 1 else held - held // 16
        if held < LEAST:
            held = LEAST
        if held > ONE - LEAST:
            held = ONE - LEAST
    return held


def plain_run(bits):
    if not bits:
        return HALF
    length = 0
    while length < 255 and length < len(bits) and bits[-1 - length] == bits[-1]:
        length += 1
    given = (2 * length + 1) * ONE // (2 * length + 2)
    return given if bits[-1] == 1 else ONE - given


PLAIN = {"even": plain_even, "quick": plain_quick, "run": plain_run}
CLASSES = {"even": Even, "quick": Quick, "run": Run}


def skewed_bits(seed, many, parts):
    """A 1 comes about once in so many parts."""
    numbers = numbers_from(seed)
    return [1 if next(numbers) % parts == 0 else 0 for _ in range(many)]


def rows_of_bits():
    rows = {f"mixed {seed}": mixed_bits(seed, 600) for seed in range(3)}
    rows.update({f"one in {parts}": skewed_bits(parts, 600, parts) for parts in (3, 10, 60)})
    rows.update({f"nought in {parts}": [1 - bit for bit in skewed_bits(parts, 600, parts)] for parts in (3, 10, 60)})
    for bit in (0, 1):
        rows[f"{bit} alone"] = [bit] * 600
        rows[f"{bit} at last"] = [bit] * 300 + [1 - bit] * 300
        for many in (253, 254, 255, 256, 257):
            rows[f"{many} of {bit}, then in turn"] = [bit] * many + [1 - bit, bit, bit] * 20
    rows["in turn"] = [0, 1] * 300
    return rows


def fed(slot, bits):
    for bit in bits:
        slot.seen(bit)
    return slot


class TestKinds(unittest.TestCase):
    def test_each_stands_straight_under_slot(self):
        for one in CLASSES.values():
            self.assertEqual(one.__bases__, (Slot,))

    def test_each_is_a_slot_and_none_of_the_other_two(self):
        for kind, own in CLASSES.items():
            for slot in (own(), slot_of(kind)):
                self.assertIs(type(slot), own)
                self.assertIsInstance(slot, Slot)
                self.assertEqual([other for other in CLASSES.values() if isinstance(slot, other)], [own])
        for own in CLASSES.values():
            self.assertNotIsInstance(Slot(), own)

    def test_slot_of_tells_a_new_one_each_time(self):
        for kind, own in CLASSES.items():
            first, second = slot_of(kind), slot_of(kind)
            self.assertIsNot(first, second)
            fed(first, [1, 1, 0])
            self.assertEqual(second.chance(), HALF)
            self.assertEqual(first.chance(), fed(own(), [1, 1, 0]).chance())


class TestSlot(unittest.TestCase):
    def test_it_tells_the_half_always(self):
        slot = Slot()
        self.assertEqual(slot.chance(), HALF)
        for bit in mixed_bits(5, 40) + [1] * 300:
            self.assertIsNone(slot.seen(bit))
            self.assertEqual(slot.chance(), HALF)


class TestByHand(unittest.TestCase):
    def assert_tells(self, kind, bits, chance):
        self.assertEqual(fed(slot_of(kind), bits).chance(), chance)

    def test_of_nothing_seen(self):
        for kind in CLASSES:
            self.assert_tells(kind, [], HALF)

    def test_even(self):
        self.assert_tells("even", [1], 3 * ONE // 4)
        self.assert_tells("even", [0], ONE // 4)
        self.assert_tells("even", [1, 0], HALF)
        self.assert_tells("even", [1, 1], 5 * ONE // 6)
        self.assert_tells("even", [0, 0], ONE // 6)
        self.assert_tells("even", [1] * 255, ONE - LEAST)
        self.assert_tells("even", [0] * 255, LEAST)

    def test_even_is_halved_behind_the_256th(self):
        self.assert_tells("even", [1] * 256, 257 * ONE // 258)
        self.assert_tells("even", [0] * 256, ONE // 258)
        # 255 and 1 are 128 and 1: both rounded up.
        self.assert_tells("even", [1] * 255 + [0], 257 * ONE // 260)
        self.assert_tells("even", [0] * 255 + [1], 3 * ONE // 260)
        self.assert_tells("even", [0] * 253 + [1] * 3, 5 * ONE // 260)
        self.assert_tells("even", [1] * 256 + [0], 257 * ONE // 260)

    def test_quick(self):
        self.assert_tells("quick", [1], HALF + HALF // 16)
        self.assert_tells("quick", [0], HALF - HALF // 16)
        self.assert_tells("quick", [1, 0], 17 * 2 ** 19 - 17 * 2 ** 15)
        self.assert_tells("quick", [1] * 400, ONE - LEAST)
        self.assert_tells("quick", [0] * 400, LEAST)
        self.assert_tells("quick", [1] * 400 + [0], ONE - LEAST - (ONE - LEAST) // 16)
        self.assert_tells("quick", [0] * 400 + [1], LEAST + (ONE - LEAST) // 16)

    def test_run(self):
        self.assert_tells("run", [1], 3 * ONE // 4)
        self.assert_tells("run", [0], ONE - 3 * ONE // 4)
        self.assert_tells("run", [0, 0], ONE - 5 * ONE // 6)
        self.assert_tells("run", [0, 0, 1], 3 * ONE // 4)
        self.assert_tells("run", [1] * 254, 509 * ONE // 510)
        for many in (255, 256, 600):
            self.assert_tells("run", [1] * many, ONE - LEAST)
            self.assert_tells("run", [0] * many, LEAST)
        self.assert_tells("run", [1] * 600 + [0], ONE // 4)


class TestReckoned(unittest.TestCase):
    def test_ahead_of_each_bit_and_behind_the_last(self):
        for kind, plain in PLAIN.items():
            for name, bits in rows_of_bits().items():
                with self.subTest(kind=kind, name=name):
                    self.assert_follows(slot_of(kind), plain, bits)

    def assert_follows(self, slot, plain, bits):
        for many, bit in enumerate(bits):
            chance = slot.chance()
            self.assertTrue(is_chance(chance))
            self.assertEqual(chance, plain(bits[:many]))
            self.assertEqual(slot.chance(), chance)
            self.assertIsNone(slot.seen(bit))
        self.assertEqual(slot.chance(), plain(bits))

    def test_two_slots_of_a_kind_side_by_side(self):
        for kind, plain in PLAIN.items():
            first, second, third = slot_of(kind), slot_of(kind), slot_of(kind)
            one, other = mixed_bits(21, 300), skewed_bits(22, 300, 5)
            for many in range(300):
                self.assertEqual((first.chance(), second.chance()), (plain(one[:many]), plain(other[:many])))
                first.seen(one[many])
                second.seen(other[many])
            self.assertEqual(third.chance(), HALF)
            self.assertEqual(slot_of(kind).chance(), HALF)


class TestRefusals(unittest.TestCase):
    def test_no_bit_and_the_chance_stays(self):
        for kind, plain in PLAIN.items():
            slot, bits = slot_of(kind), mixed_bits(31, 20)
            for many, bit in enumerate(bits):
                for thing in no_bits():
                    assert_refused(self, "NoBit", lambda: slot.seen(thing))
                self.assertEqual(slot.chance(), plain(bits[:many]))
                slot.seen(bit)
            self.assertEqual(slot.chance(), plain(bits))

    def test_amid_a_halving_and_at_the_ends(self):
        for kind, plain in PLAIN.items():
            for bits in ([1] * 255, [0] * 255, [0] * 254 + [1]):
                slot = fed(slot_of(kind), bits)
                for thing in no_bits():
                    assert_refused(self, "NoBit", lambda: slot.seen(thing))
                self.assertEqual(slot.chance(), plain(bits))
                slot.seen(0)
                self.assertEqual(slot.chance(), plain(bits + [0]))

    def test_no_bit_of_slot_itself(self):
        slot = Slot()
        for thing in no_bits():
            assert_refused(self, "NoBit", lambda: slot.seen(thing))
            self.assertEqual(slot.chance(), HALF)


class TestBoundOfEven(unittest.TestCase):
    def assert_bound(self, bits):
        slot, given = Even(), 1
        noughts = ones = 0
        for many, bit in enumerate(bits, 1):
            given *= gives(slot.chance(), bit)
            slot.seen(bit)
            noughts, ones = noughts + (bit == 0), ones + (bit == 1)
            told = 4 * many * many ** (2 * many) * given ** 2
            known = noughts ** (2 * noughts) * ones ** (2 * ones) * ONE ** (2 * many)
            self.assertTrue(told >= known, (bits, many))

    def test_no_worse_than_who_knows_how_many(self):
        for name, bits in rows_of_bits().items():
            with self.subTest(name=name):
                self.assert_bound(bits[:255])

    def test_however_many_are_noughts(self):
        for noughts in range(256):
            ones = 255 - noughts
            self.assert_bound([0] * noughts + [1] * ones)
            self.assert_bound([1] * ones + [0] * noughts)

    def test_each_row_of_few_bits(self):
        for many in range(1, 11):
            for number in range(2 ** many):
                self.assert_bound([number >> place & 1 for place in range(many)])


if __name__ == "__main__":
    unittest.main()
