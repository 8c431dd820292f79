"""The numbers that all is reckoned with, and lists of signs and of bytes."""

from foretell.errors import NoBit, NoBytes, NoChance, NoMost, NoText

# 2 ** 24 and 2 ** 15: only plain values stand at a file's top.
ONE = 16777216
LEAST = 32768

MOST_SIGNS = 1000
MOST_BYTES = 12000


def is_whole(thing):
    # True and False are ints for Python, but no whole numbers here.
    return isinstance(thing, int) and not isinstance(thing, bool)


def is_bit(thing):
    return is_whole(thing) and 0 <= thing <= 1


def is_chance(thing):
    return is_whole(thing) and LEAST <= thing <= ONE - LEAST


def is_sign(thing):
    return is_whole(thing) and 0 <= thing <= 255


def is_list_of_signs(thing, most):
    # The length is asked first, so that a list far too long is not walked.
    return isinstance(thing, list) and len(thing) <= most and all([is_sign(part) for part in thing])


def checked_text(thing):
    if not is_list_of_signs(thing, MOST_SIGNS):
        raise NoText("a text is a list of at most 1000 whole numbers from 0 to 255")
    return list(thing)


def checked_bytes(thing):
    if not is_list_of_signs(thing, MOST_BYTES):
        raise NoBytes("bytes are a list of at most 12000 whole numbers from 0 to 255")
    return list(thing)


def check_most(thing):
    if not is_whole(thing) or not 0 <= thing <= MOST_SIGNS:
        raise NoMost("most is a whole number from 0 to 1000")


def check_chance(thing):
    if not is_chance(thing):
        raise NoChance("a chance is a whole number from LEAST to ONE - LEAST")


def check_bit(thing):
    if not is_bit(thing):
        raise NoBit("a bit is a whole number, 0 or 1")


def gives(chance, bit):
    check_chance(chance)
    check_bit(bit)
    return chance if bit == 1 else ONE - chance
