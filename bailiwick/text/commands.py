"""The lines of a shell: which words they have, and what these tell."""

from bailiwick.ask.filters import read_filter
from bailiwick.ask.search import SCOPES
from bailiwick.base.names import read_name
from bailiwick.base.numerals import read_integer, read_number, read_place
from bailiwick.base.words import is_pair, is_word
from bailiwick.errors import InvalidFilter, ParseError
from bailiwick.place.rights import RIGHTS


class Misfit(Exception):
    """A word of a line is none that can stand there."""


def _needed(told):
    """What a word tells, if it tells something."""
    if told is None:
        raise Misfit()
    return told


def _read_number(signs):
    """A number."""
    return _needed(read_number(signs))


def _read_place(signs):
    """A number, or 0."""
    return _needed(read_place(signs))


def _read_integer(signs):
    """An integer."""
    return _needed(read_integer(signs))


def _read_asker(signs):
    """A number, 0 for the house, or None for nobody known."""
    return None if signs == "nobody" else _read_place(signs)


def _read_word(signs):
    """A type or a class."""
    return _needed(signs if is_word(signs) else None)


def _read_scope(signs):
    """A scope."""
    return _needed(signs if signs in SCOPES else None)


def _read_right(signs):
    """A right."""
    return _needed(signs if signs in RIGHTS else None)


def _read_keep(signs):
    """Whether a move keeps the elder naming."""
    if signs not in ("keep", "drop"):
        raise Misfit()
    return signs == "keep"


def _read_value(signs):
    """A pair of a type and a text."""
    word, sign, text = signs.partition("=")
    return _needed((word, text) if is_pair((word, text)) else None)


def _read_name(signs):
    """A name."""
    try:
        return read_name(signs)
    except ParseError:
        raise Misfit() from None


def _read_filter(signs):
    """A filter."""
    try:
        return read_filter(signs)
    except (ParseError, InvalidFilter):
        raise Misfit() from None


# What each word of a row tells: N and A are numbers of entries, as rows have them, and "free" is one of no entry.
READERS = {
    "A": _read_place,
    "N": _read_number,
    "asker": _read_asker,
    "filter": _read_filter,
    "free": _read_number,
    "integer": _read_integer,
    "keep": _read_keep,
    "name": _read_name,
    "right": _read_right,
    "scope": _read_scope,
    "value": _read_value,
    "word": _read_word,
}
# The words behind each command word; the last one is all that is left of the line.
ROWS = {
    "add": ("free", "A", "word", "value"),
    "as": ("asker",),
    "can": ("right", "A"),
    "clear": ("N", "word"),
    "drop": ("N", "value"),
    "find": ("scope", "A", "filter"),
    "members": ("N",),
    "move": ("N", "A", "keep", "value"),
    "name": ("N",),
    "number": ("name",),
    "put": ("N", "value"),
    "raise": ("N", "word", "integer"),
    "redo": (),
    "remove": ("N",),
    "show": ("N",),
    "undo": (),
}
# A line of four words that begins so asks for a type, too.
LONG_CAN = ("right", "A", "word")


def _row_of(line):
    """The words that a line must have behind its command word."""
    word, _, rest = line.partition(" ")
    if word not in ROWS:
        raise Misfit()
    return LONG_CAN if word == "can" and rest.count(" ") == 2 else ROWS[word]


def _parts_of(line, many):
    """The parts of a line that are parted by one blank each: the command word and so many words."""
    parts = []
    for _ in range(many):
        part, blank, line = line.partition(" ")
        if blank == "":
            raise Misfit()
        parts.append(part)
    return [*parts, line]


def _told_by(kind, signs):
    """What a word of a row tells."""
    action = READERS[kind]
    return action(signs)


def read_command(line):
    """The command word of a line, what its words tell, and the numbers of the entries that must be seen."""
    row = _row_of(line)
    parts = _parts_of(line, len(row))
    if row == () and line not in ROWS:
        raise Misfit()
    told = [_told_by(kind, part) for kind, part in zip(row, parts[1:])]
    numbers = [each for kind, each in zip(row, told) if kind in ("A", "N") and each != 0]
    return parts[0], told, numbers
