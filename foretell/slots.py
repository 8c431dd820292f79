"""The slots: each foretells the next bit by those that it has seen."""

from foretell.errors import NoLooks
from foretell.numbers import LEAST, ONE, check_bit

KINDS = ("even", "quick", "run")

# Beyond so many bits the tellings of even and run would lie outside of the chances.
MOST_COUNTED = 255


class Slot:
    def chance(self):
        return ONE // 2

    def seen(self, bit):
        check_bit(bit)

    def twin(self):
        return Slot()


class Even(Slot):
    def __init__(self):
        self.noughts = 0
        self.ones = 0

    def chance(self):
        return (2 * self.ones + 1) * ONE // (2 * (self.noughts + self.ones) + 2)

    def seen(self, bit):
        check_bit(bit)
        if bit == 1:
            self.ones = self.ones + 1
        else:
            self.noughts = self.noughts + 1
        if self.noughts + self.ones > MOST_COUNTED:
            self.noughts = (self.noughts + 1) // 2
            self.ones = (self.ones + 1) // 2

    def twin(self):
        made = Even()
        made.noughts = self.noughts
        made.ones = self.ones
        return made


class Quick(Slot):
    def __init__(self):
        self.held = ONE // 2

    def chance(self):
        return self.held

    def seen(self, bit):
        check_bit(bit)
        if bit == 1:
            moved = self.held + (ONE - self.held) // 16
        else:
            moved = self.held - self.held // 16
        self.held = min(max(moved, LEAST), ONE - LEAST)

    def twin(self):
        made = Quick()
        made.held = self.held
        return made


class Run(Slot):
    def __init__(self):
        # A run of no length tells ONE // 2 of either bit, so it does not matter which one stands here.
        self.last = 1
        self.length = 0

    def chance(self):
        given = (2 * self.length + 1) * ONE // (2 * self.length + 2)
        return given if self.last == 1 else ONE - given

    def seen(self, bit):
        check_bit(bit)
        if bit == self.last:
            self.length = min(self.length + 1, MOST_COUNTED)
        else:
            self.last = bit
            self.length = 1

    def twin(self):
        made = Run()
        made.last = self.last
        made.length = self.length
        return made


def slot_of(kind):
    if kind == "even":
        return Even()
    if kind == "quick":
        return Quick()
    if kind == "run":
        return Run()
    raise NoLooks("a look's kind is even, quick or run")
