"""The pressing: a text is told by the few bytes of a span, and read again from them."""

from foretell.decisions import WORTHS, decisions_of
from foretell.errors import NoPress
from foretell.foretellers import Foreteller
from foretell.numbers import check_most, checked_bytes, checked_text
from foretell.seekers import Seeker
from foretell.spans import Span
from foretell.telling import checked_learned, teach


def press_by(foreteller, text):
    span = Span()
    for bit in decisions_of(text):
        span.narrow(foreteller.chance(), bit)
        foreteller.see(bit)
    return span.told()


def pressed(looks, text, learned=None):
    # Looks, text and learned texts are checked in this order, as the refusals must come in that of the arguments.
    foreteller = Foreteller(looks)
    signs = checked_text(text)
    teach(foreteller, checked_learned(learned))
    return press_by(foreteller, signs)


def bit_by(foreteller, seeker):
    bit = seeker.bit(foreteller.chance())
    foreteller.see(bit)
    return bit


def sign_by(foreteller, seeker):
    return sum([worth * bit_by(foreteller, seeker) for worth in WORTHS])


def text_by(foreteller, seeker, most):
    text = []
    while bit_by(foreteller, seeker) == 1:
        if len(text) == most:
            raise NoPress("a text of more signs than asked for would come")
        text.append(sign_by(foreteller, seeker))
    return text


def read_by(foreteller, data, most):
    # The foreteller has seen part of what is refused, so it is of no use behind a refusal.
    seeker = Seeker(data)
    text = text_by(foreteller, seeker, most)
    own = seeker.told()
    # Any bytes lead to some text; only those that begin with the text's own were pressed.
    if data[:len(own)] != own:
        raise NoPress("the bytes begin with those of no text")
    return (text, len(own))


def read_first(looks, data, most=1000, learned=None):
    foreteller = Foreteller(looks)
    row = checked_bytes(data)
    check_most(most)
    teach(foreteller, checked_learned(learned))
    return read_by(foreteller, row, most)


def read(looks, data, most=1000, learned=None):
    first = read_first(looks, data, most, learned)
    if first[1] < len(data):
        raise NoPress("bytes stand behind those of the text")
    return first[0]
