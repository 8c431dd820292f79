"""The foreteller: looks that are mixed, and learn by the decisions of one text behind another."""

from foretell.looks import Book, checked_looks
from foretell.mixing import Mixer
from foretell.numbers import check_bit

# Nodes end ahead of this: what comes to it or beyond is a sign, all of whose bits are told, and this.
NODES_END = 256


class Foreteller:
    def __init__(self, looks):
        self.looks = checked_looks(looks)
        self.books = [Book(look) for look in self.looks]
        self.mixer = Mixer(len(self.looks))
        self.ended = []
        self.place = 0
        self.present = []
        self.arrive()

    def arrive(self):
        # The slots of the decision that is next are sought once, as they are asked and then see the bit.
        self.present = [book.slot_at(self.ended, self.place) for book in self.books]

    def chances(self):
        return [slot.chance() for slot in self.present]

    def chance(self):
        return self.mixer.mixed(self.chances())

    def weights(self):
        return self.mixer.weights()

    def node(self):
        return self.place

    def signs(self):
        return list(self.ended)

    def see(self, bit):
        check_bit(bit)
        self.mixer.learn(self.chances(), bit)
        for slot in self.present:
            slot.seen(bit)
        self.step(bit)
        self.arrive()

    def step(self, bit):
        if self.place > 0:
            self.step_in_sign(bit)
        elif bit == 1:
            self.place = 1
        else:
            self.ended = []

    def step_in_sign(self, bit):
        self.place = 2 * self.place + bit
        if self.place >= NODES_END:
            self.ended.append(self.place - NODES_END)
            self.place = 0

    def fork(self):
        made = Foreteller(self.looks)
        made.books = [book.twin() for book in self.books]
        made.mixer = self.mixer.twin()
        made.ended = list(self.ended)
        made.place = self.place
        # Anew, so that the fork has its own slots at hand.
        made.arrive()
        return made
