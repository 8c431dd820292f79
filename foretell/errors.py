"""The refusals: one class for each, all straight under ForetellError."""


class ForetellError(ValueError):
    pass


class NoLooks(ForetellError):
    pass


class NoText(ForetellError):
    pass


class NoBytes(ForetellError):
    pass


class NoChance(ForetellError):
    pass


class NoBit(ForetellError):
    pass


class NoName(ForetellError):
    pass


class NoPress(ForetellError):
    pass


class NoMost(ForetellError):
    pass


class TooLong(ForetellError):
    pass


class Taken(ForetellError):
    pass


class NoPiece(ForetellError):
    pass


class Full(ForetellError):
    pass


class InUse(ForetellError):
    pass


class NoShelf(ForetellError):
    pass


class NoWords(ForetellError):
    pass
