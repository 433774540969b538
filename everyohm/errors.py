"""All errors of the package: one base, four families, ten errors."""


class OhmError(ValueError):
    """The base class of all errors of the package."""


class UseError(OhmError):
    """A function was used with something that it does not take."""


class NetError(OhmError):
    """Something is wrong with the names or the shape of a net."""


class TextError(OhmError):
    """A text cannot be read."""


class LiveError(OhmError):
    """A lab or a desk cannot do what it is told."""


class NotUsable(UseError):
    """A parameter, or a place in it, is not as stated."""

    def __init__(self, word, at):
        self.word = word
        self.at = at


class TooMany(UseError):
    """A bound is passed."""

    def __init__(self, limit):
        self.limit = limit


class NoSuchName(NetError):
    """Nothing has the name."""

    def __init__(self, name):
        self.name = name


class NameTwice(NetError):
    """The name is taken."""

    def __init__(self, name):
        self.name = name


class StillUsed(NetError):
    """What has the name cannot go: something else needs it."""

    def __init__(self, name):
        self.name = name


class NotFlat(NetError):
    """No net can be made; the reason is a word."""

    def __init__(self, reason, name):
        self.reason = reason
        self.name = name


class InvalidText(TextError):
    """A line of a text is bad from a word, or a character, on."""

    def __init__(self, line, word):
        self.line = line
        self.word = word


class Unended(TextError):
    """The block that a line opens is never closed."""

    def __init__(self, line):
        self.line = line


class InvalidMove(LiveError):
    """A lab cannot make a move; the reason is a word."""

    def __init__(self, move, reason):
        self.move = move
        self.reason = reason


class InvalidLine(LiveError):
    """A desk cannot take a line; the reason is a word."""

    def __init__(self, reason):
        self.reason = reason
