"""The decisions by which a text is told: bits, and their nodes."""

from foretell.numbers import MOST_SIGNS, checked_text, is_bit

# What each bit of a sign counts, in the order in which they are told.
WORTHS = (128, 64, 32, 16, 8, 4, 2, 1)

# Ahead of the bits of a sign stands the one that tells that a sign comes.
STEP = 9


def bits_of(sign):
    return [sign // worth % 2 for worth in WORTHS]


def decisions_of(text):
    bits = []
    for sign in checked_text(text):
        bits.append(1)
        bits.extend(bits_of(sign))
    bits.append(0)
    return bits


def nodes_of(text):
    nodes = []
    for sign in checked_text(text):
        nodes.append(0)
        node = 1
        for bit in bits_of(sign):
            nodes.append(node)
            node = 2 * node + bit
    nodes.append(0)
    return nodes


def sign_at(bits, start):
    return sum([worth * bits[start + k] for k, worth in enumerate(WORTHS)])


def is_list_of_bits(thing):
    # The length is asked first, so that a list far too long is not walked.
    return isinstance(thing, list) and len(thing) <= STEP * MOST_SIGNS + 1 and all([is_bit(part) for part in thing])


def signs_of(bits):
    if not is_list_of_bits(bits) or len(bits) % STEP != 1:
        return None
    signs = [sign_at(bits, start) for start in range(1, len(bits), STEP)]
    # Told again, they show whether the bits ahead of the signs and at the end are right.
    return signs if decisions_of(signs) == bits else None
