"""A chain: pieces one behind the other, the texts read of them, and the foreteller that has learned by all."""

from foretell.foretellers import Foreteller
from foretell.pressing import press_by, read_by


class Chain:
    def __init__(self, looks):
        self.foreteller = Foreteller(looks)
        self.links = []
        self.texts = []

    def grow(self, name, text):
        self.links.append(name)
        self.texts.append(text)

    def press(self, name, text):
        data = press_by(self.foreteller, text)
        # The text itself is not kept: it is told by reading its bytes.
        self.grow(name, None)
        return data

    def read(self, name, data, most):
        # As the foreteller's, the chain is of no use behind a refusal.
        first = read_by(self.foreteller, data, most)
        self.grow(name, first[0])
        return first[1]

    def size_with(self, text):
        # By a fork, as the text is tried alone and the chain is to stay.
        return len(press_by(self.foreteller.fork(), text))
