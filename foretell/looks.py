"""The looks: which signs ahead are looked at, and by which kind of slot a look learns."""

from foretell.errors import NoLooks
from foretell.numbers import check_bit, is_whole
from foretell.slots import KINDS, Slot, slot_of

MOST_LOOKS = 6
MOST_PLACES = 4
FARTHEST = 8

# One more than the greatest sign, so that it is none.
NO_SIGN = 256


def is_kind(thing):
    # Texts alone are compared: a thing of another kind may refuse to be.
    return isinstance(thing, str) and thing in KINDS


def is_place(thing):
    return is_whole(thing) and 1 <= thing <= FARTHEST


def are_places(thing):
    if not isinstance(thing, tuple) or len(thing) > MOST_PLACES or not all([is_place(part) for part in thing]):
        return False
    return all([near < far for near, far in zip(thing, thing[1:])])


def is_look(thing):
    return isinstance(thing, tuple) and len(thing) == 2 and is_kind(thing[0]) and are_places(thing[1])


def checked_looks(thing):
    if not isinstance(thing, list) or not 1 <= len(thing) <= MOST_LOOKS or not all([is_look(part) for part in thing]):
        raise NoLooks("looks are a list of one to six tuples of a kind and of places")
    return list(thing)


def sign_back(signs, place):
    return signs[-place] if place <= len(signs) else NO_SIGN


def context_of(look, signs, node):
    return tuple([sign_back(signs, place) for place in look[1]] + [node])


class Book:
    def __init__(self, look):
        self.look = look
        self.slots = {}

    def chance(self, signs, node):
        # A context that never came gets no slot by being asked for: asking changes nothing.
        slot = self.slots.get(context_of(self.look, signs, node))
        return Slot().chance() if slot is None else slot.chance()

    def slot_at(self, signs, node):
        context = context_of(self.look, signs, node)
        if context not in self.slots:
            self.slots[context] = slot_of(self.look[0])
        return self.slots[context]

    def seen(self, signs, node, bit):
        check_bit(bit)
        self.slot_at(signs, node).seen(bit)

    def twin(self):
        slots = {}
        for context, slot in self.slots.items():
            slots[context] = slot.twin()
        made = Book(self.look)
        made.slots = slots
        return made
