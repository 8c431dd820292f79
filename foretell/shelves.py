"""The shelf: all of a store as bytes, and the store opened from them."""

from foretell.errors import Full, NoLooks, NoMost, NoName, NoPress, NoShelf, Taken
from foretell.numbers import MOST_BYTES, is_list_of_signs
from foretell.slots import KINDS
from foretell.spans import written
from foretell.stores import LETTERS, Store

# More than any shelf has: sixty pieces, each of less than MOST_BYTES with all that stands ahead of it.
MOST_SHELF = 1000000


def look_bytes(look):
    return [KINDS.index(look[0]), len(look[1])] + list(look[1])


def name_bytes(name):
    return [len(name)] + [LETTERS.index(letter) for letter in name]


def base_bytes(store, name):
    base = store.base_of(name)
    return [0 if base is None else store.names().index(base) + 1]


def shelf_of(store):
    looks = store.told_looks()
    names = store.names()
    shelf = [len(looks)]
    for look in looks:
        shelf.extend(look_bytes(look))
    shelf.extend(written(store.most_signs(), 2))
    shelf.append(len(names))
    for name in names:
        shelf.extend(name_bytes(name) + base_bytes(store, name) + store.bytes_of(name))
    return shelf


class Reader:
    def __init__(self, data):
        self.data = data
        self.reached = 0

    def next_byte(self):
        if self.reached == len(self.data):
            raise NoShelf("bytes are lacking")
        self.reached = self.reached + 1
        return self.data[self.reached - 1]

    def next_part(self, parts):
        number = self.next_byte()
        if number >= len(parts):
            raise NoShelf("a number stands for nothing")
        return parts[number]

    def next_look(self):
        kind = self.next_part(KINDS)
        many = self.next_byte()
        return (kind, tuple([self.next_byte() for place in range(many)]))

    def next_store(self):
        many = self.next_byte()
        looks = [self.next_look() for place in range(many)]
        upper = self.next_byte()
        return Store(looks, 256 * upper + self.next_byte())

    def next_name(self):
        many = self.next_byte()
        return "".join([self.next_part(LETTERS) for place in range(many)])

    def put_next(self, store):
        name = self.next_name()
        # Only pieces that stand ahead are in the store yet, so no other one can be the base.
        base = self.next_part([None] + store.names())
        # The bytes of a text tell by themselves where they end, but never are more than these.
        ahead = self.data[self.reached:self.reached + MOST_BYTES]
        self.reached = self.reached + store.put_first(name, ahead, base)

    def whole_store(self):
        store = self.next_store()
        for place in range(self.next_byte()):
            self.put_next(store)
        if self.reached < len(self.data):
            raise NoShelf("bytes stand behind the last piece")
        return store


def opened(data):
    if not is_list_of_signs(data, MOST_SHELF):
        raise NoShelf("a shelf is a list of bytes")
    try:
        return Reader(list(data)).whole_store()
    except (NoLooks, NoMost, NoName, Taken, Full, NoPress) as e:
        raise NoShelf("no store has this shelf") from e
