"""The telling of a text: what is foretold at each of its decisions, and what it costs."""

from foretell.decisions import decisions_of
from foretell.errors import NoText
from foretell.foretellers import Foreteller
from foretell.numbers import checked_text, gives

# ONE is 2 to the power of this.
FIGURES = 24


def checked_learned(thing):
    if thing is None:
        return []
    if not isinstance(thing, list):
        raise NoText("learned texts are a list of texts, or None")
    return [checked_text(text) for text in thing]


def teach(foreteller, texts):
    for text in texts:
        for bit in decisions_of(text):
            foreteller.see(bit)


def rows_of(looks, text, learned):
    # Looks, text and learned texts are checked in this order, as the refusals must come in that of the arguments.
    foreteller = Foreteller(looks)
    bits = decisions_of(text)
    teach(foreteller, checked_learned(learned))
    rows = []
    for bit in bits:
        rows.append((foreteller.chance(), foreteller.chances(), bit))
        foreteller.see(bit)
    return rows


def foretold(looks, text, learned=None):
    return [(chance, bit) for chance, chances, bit in rows_of(looks, text, learned)]


def by_looks(looks, text, learned=None):
    return [chances for chance, chances, bit in rows_of(looks, text, learned)]


def cost(looks, text, learned=None):
    steps = foretold(looks, text, learned)
    given = 1
    for chance, bit in steps:
        given = given * gives(chance, bit)
    # ONE ** n is a 1 with FIGURES * n noughts behind, so 2 ** b * given is no less as soon as it is as long.
    return FIGURES * len(steps) + 1 - given.bit_length()
