"""The errors of the package."""


def _shown(value):
    """A text of a value for a message.

    A value can be of any size, and writing out a great one can fail itself.
    """
    if isinstance(value, str) and len(value) <= 100:
        return value
    if isinstance(value, int) and value.bit_length() <= 100:
        return str(value)
    return "a value of " + value.__class__.__name__


class BailiwickError(ValueError):
    """Something that is passed is not what the document asks for."""

    def __init__(self, value=None):
        ValueError.__init__(self, _shown(value))


class InvalidText(BailiwickError):
    """The value is no such text."""

    def __init__(self, value):
        BailiwickError.__init__(self, value)
        self.value = value


class InvalidWord(BailiwickError):
    """The value is no such word."""

    def __init__(self, value):
        BailiwickError.__init__(self, value)
        self.value = value


class InvalidName(BailiwickError):
    """The value is no name of an entry."""


class InvalidSchema(BailiwickError):
    """The value is no schema, or the schema has a fault."""


class InvalidTree(BailiwickError):
    """The value is no tree, or no entry."""


class InvalidDeed(BailiwickError):
    """The value is no deed, unit or wish."""


class InvalidFilter(BailiwickError):
    """The value is no filter."""


class InvalidLetter(BailiwickError):
    """The value is no letter."""


class InvalidOperation(BailiwickError):
    """What is asked for cannot be asked so."""


class ParseError(BailiwickError):
    """A text cannot be read; the index is that of the first sign or line that cannot stand."""

    def __init__(self, index):
        BailiwickError.__init__(self, index)
        self.index = index


class InvalidNumber(ArithmeticError):
    """The value is no such number."""

    def __init__(self, value):
        ArithmeticError.__init__(self, _shown(value))
        self.value = value


class TooMany(OverflowError):
    """There would be more than the most."""

    def __init__(self, most):
        OverflowError.__init__(self, _shown(most))
        self.most = most


class UnknownNumber(KeyError):
    """No entry has the number that was asked for."""

    def __init__(self, asked):
        KeyError.__init__(self, _shown(asked))
        self.asked = asked


class UnknownName(IndexError):
    """Nothing has the name that was asked for."""

    def __init__(self, asked):
        IndexError.__init__(self, _shown(asked))
        self.asked = asked


class Refused(LookupError):
    """What was asked cannot be done now, for this reason."""

    def __init__(self, reason):
        LookupError.__init__(self, _shown(reason))
        self.reason = reason
