"""The seeker: bytes, and the span in which their row lies, told again bit by bit."""

from foretell.numbers import check_chance, checked_bytes
from foretell.spans import Span


class Seeker:
    def __init__(self, data):
        self.data = checked_bytes(data)
        self.span = Span()
        self.number = 0
        self.reached = 0
        self.follow()

    def follow(self):
        # The number is always that of as many bytes as the span's own, so that the two can be compared.
        while self.reached < self.span.size:
            self.number = self.number * 256 + self.byte_at(self.reached)
            self.reached = self.reached + 1

    def byte_at(self, place):
        return self.data[place] if place < len(self.data) else 0

    def bit(self, chance):
        # Asked first, as the cut takes any number for a chance.
        check_chance(chance)
        bit = 1 if self.number < self.span.low + self.span.cut(chance) else 0
        self.span.narrow(chance, bit)
        self.follow()
        return bit

    def ends(self):
        return self.span.ends()

    def told(self):
        return self.span.told()
