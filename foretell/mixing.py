"""The mixing of looks: each counts as much as its foretelling was worth so far."""

from foretell.numbers import check_bit, gives

# 2 ** 40: only plain values stand at a file's top.
FIRST_WEIGHT = 1099511627776

# So many parts of 32 each look keeps of its own share; the rest is shared out evenly among all looks.
OWN_PARTS = 31

# How many binary figures the sum of the weights has at most.
MOST_FIGURES = 48


class Mixer:
    def __init__(self, many):
        self.kept = [FIRST_WEIGHT] * many

    def weights(self):
        return list(self.kept)

    def mixed(self, chances):
        return sum([weight * chance for weight, chance in zip(self.kept, chances)]) // sum(self.kept)

    def learn(self, chances, bit):
        check_bit(bit)
        shares = [weight * gives(chance, bit) for weight, chance in zip(self.kept, chances)]
        whole = sum(shares)
        own = OWN_PARTS * len(shares)
        grown = [own * share + whole for share in shares]
        # Dropping a binary figure halves and rounds down; the same number for all keeps the weights in proportion.
        dropped = max(sum(grown).bit_length() - MOST_FIGURES, 0)
        self.kept = [weight >> dropped for weight in grown]

    def twin(self):
        made = Mixer(len(self.kept))
        made.kept = list(self.kept)
        return made
