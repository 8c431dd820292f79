"""The span: rows of bytes without end, narrowed by chances and bits."""

from foretell.numbers import ONE, check_bit, check_chance

# 2 ** 40 and 2 ** 32: only plain values stand at a file's top.
FIRST_WIDTH = 1099511627776
LEAST_WIDTH = 4294967296
FIRST_SIZE = 5


def written(number, size):
    # Built from the last byte on: that end of a number can be taken off without knowing its length.
    places = []
    while len(places) < size:
        places.append(number % 256)
        number = number // 256
    places.reverse()
    return places


def first_block(low, unit):
    # The number of the first block of unit numbers that begins at low or behind it: so rounded up.
    return (low + unit - 1) // unit


class Span:
    def __init__(self):
        self.low = 0
        self.width = FIRST_WIDTH
        self.size = FIRST_SIZE

    def ends(self):
        return (self.low, self.width, self.size)

    def cut(self, chance):
        # How many of the span's numbers a 1 gets: the first ones, ahead of those of a 0.
        return self.width * chance // ONE

    def narrow(self, chance, bit):
        check_chance(chance)
        check_bit(bit)
        cut = self.cut(chance)
        if bit == 1:
            self.width = cut
        else:
            self.low = self.low + cut
            self.width = self.width - cut
        while self.width < LEAST_WIDTH:
            self.low = self.low * 256
            self.width = self.width * 256
            self.size = self.size + 1

    def settled(self):
        lowest = self.low
        highest = self.low + self.width - 1
        size = self.size
        while lowest != highest:
            lowest = lowest // 256
            highest = highest // 256
            size = size - 1
        return written(lowest, size)

    def holds_block(self, unit):
        return (first_block(self.low, unit) + 1) * unit <= self.low + self.width

    def told(self):
        # If some bytes tell the span, so do these with a nought behind. So the fewest are found by dropping
        # from the end, and a few steps do, as a block that the span holds is no wider than the span.
        unit = 1
        size = self.size
        while self.holds_block(unit * 256):
            unit = unit * 256
            size = size - 1
        return written(first_block(self.low, unit), size)
