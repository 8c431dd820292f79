"""The desk: a store that is told rows of words, and answers each by a text."""

from foretell.errors import NoWords
from foretell.shelves import opened, shelf_of
from foretell.stores import Store
from foretell.telling import cost

FIGURES = "0123456789abcdef"
DONE = "ok"
NO_BASE = "-"


def hex_of(signs):
    return "".join([FIGURES[sign // 16] + FIGURES[sign % 16] for sign in signs])


def signs_by(word):
    if len(word) % 2 == 1 or not all([figure in FIGURES for figure in word]):
        raise NoWords("a list of signs is told by two figures of 0 to 9 and a to f each")
    worths = [FIGURES.index(figure) for figure in word]
    return [16 * worths[place] + worths[place + 1] for place in range(0, len(worths), 2)]


def shown(base):
    return NO_BASE if base is None else base


class Desk:
    def __init__(self, looks, most=1000):
        self.store = Store(looks, most)

    def say(self, row):
        if not isinstance(row, str):
            raise NoWords("a row is a text")
        words = row.split(" ")
        if len(words) == 1:
            return self.say_alone(row)
        if len(words) == 2:
            return self.say_with(words[0], words[1])
        if words[0] == "put" and len(words) == 3:
            return self.lay(words[1], words[2], None)
        if words[0] == "put" and len(words) == 5 and words[2] == "on":
            return self.lay(words[1], words[4], words[3])
        raise NoWords("a row of these words has none of the forms")

    def say_alone(self, verb):
        if verb == "names":
            return " ".join(self.store.names())
        if verb == "shelf":
            return hex_of(shelf_of(self.store))
        raise NoWords("no row is this word alone")

    def say_with(self, verb, word):
        if verb == "get":
            return hex_of(self.store.text_of(word))
        if verb == "bytes":
            return hex_of(self.store.bytes_of(word))
        if verb == "base":
            return shown(self.store.base_of(word))
        if verb == "cost":
            return str(self.cost_of(word))
        if verb == "drop":
            self.store.drop(word)
            return DONE
        if verb == "best":
            return shown(self.store.best_base(signs_by(word)))
        if verb == "open":
            self.store = opened(signs_by(word))
            return DONE
        raise NoWords("no row of two words begins so")

    def lay(self, name, word, base):
        self.store.put(name, signs_by(word), base)
        return DONE

    def cost_of(self, name):
        return cost(self.store.told_looks(), self.store.text_of(name), self.store.learned_of(name))
