"""The store: pieces by names, each kept as its text pressed with the texts on which it stands."""

from foretell.chains import Chain
from foretell.errors import Full, InUse, NoName, NoPiece, Taken, TooLong
from foretell.looks import checked_looks
from foretell.numbers import check_most, checked_text

LETTERS = "abcdefghijklmnopqrstuvwxyz"
MOST_LETTERS = 8
MOST_PIECES = 60


def is_name(thing):
    return isinstance(thing, str) and 1 <= len(thing) <= MOST_LETTERS and all([letter in LETTERS for letter in thing])


def checked_name(thing):
    if not is_name(thing):
        raise NoName("a name is a text of one to eight small letters from a to z")
    return thing


def check_base(thing):
    if thing is not None:
        checked_name(thing)


class Piece:
    def __init__(self, base, data):
        self.base = base
        self.data = data


class Store:
    def __init__(self, looks, most=1000):
        self.looks = checked_looks(looks)
        check_most(most)
        self.most = most
        self.pieces = {}
        # The chain last read or pressed stays at hand: who goes on along it need not begin anew.
        self.chain = Chain(self.looks)

    def told_looks(self):
        return list(self.looks)

    def most_signs(self):
        return self.most

    def names(self):
        return list(self.pieces)

    def put(self, name, text, base=None):
        checked_name(name)
        signs = checked_text(text)
        check_base(base)
        self.check_length(signs)
        self.check_room(name, base)
        data = self.chain_to(base).press(name, signs)
        self.pieces[name] = Piece(base, data)

    def put_first(self, name, data, base):
        # As put, but with bytes that begin with those of the piece; how many these are is told.
        checked_name(name)
        self.check_room(name, base)
        chain = self.chain_to(base)
        # Bytes that are refused spoil the chain, so the store lets go of it until they are read.
        self.chain = Chain(self.looks)
        own = chain.read(name, data, self.most)
        self.chain = chain
        self.pieces[name] = Piece(base, data[:own])
        return own

    def check_length(self, text):
        if len(text) > self.most:
            raise TooLong("the text has more signs than the store takes")

    def check_room(self, name, base):
        if name in self.pieces:
            raise Taken("a piece of this name is there")
        if base is not None:
            self.piece_at(base)
        if len(self.pieces) == MOST_PIECES:
            raise Full("there are sixty pieces")

    def piece_at(self, name):
        if checked_name(name) not in self.pieces:
            raise NoPiece("no piece of this name is there")
        return self.pieces[name]

    def links_to(self, name):
        # The lowest base first, as the learned texts stand.
        links = []
        while name is not None:
            links.append(name)
            name = self.pieces[name].base
        links.reverse()
        return links

    def chain_to(self, name):
        links = self.links_to(name)
        if self.chain.links != links[:len(self.chain.links)]:
            self.chain = Chain(self.looks)
        for link in links[len(self.chain.links):]:
            self.chain.read(link, self.pieces[link].data, self.most)
        return self.chain

    def texts_to(self, name):
        links = self.links_to(name)
        # What was pressed is not read yet, so the chain is read from its begin on.
        if None in self.chain.texts[:len(links)]:
            self.chain = Chain(self.looks)
        # Texts of a longer chain do, too; its foreteller would have learned too much.
        if self.chain.links[:len(links)] != links:
            self.chain_to(name)
        return [list(text) for text in self.chain.texts[:len(links)]]

    def text_of(self, name):
        self.piece_at(name)
        return self.texts_to(name)[-1]

    def bytes_of(self, name):
        return list(self.piece_at(name).data)

    def base_of(self, name):
        return self.piece_at(name).base

    def learned_of(self, name):
        return self.texts_to(self.piece_at(name).base)

    def drop(self, name):
        self.piece_at(name)
        if any([piece.base == name for piece in self.pieces.values()]):
            raise InUse("another piece stands on this one")
        self.pieces.pop(name)
        # Another text may come by this name, and must not be taken for the one that was read.
        self.chain = Chain(self.looks)

    def best_base(self, text):
        signs = checked_text(text)
        self.check_length(signs)
        best = None
        fewest = self.chain_to(None).size_with(signs)
        for name in self.names():
            size = self.chain_to(name).size_with(signs)
            if size < fewest:
                best = name
                fewest = size
        return best
