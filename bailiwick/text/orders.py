"""The lines of units: how deeds stand in lines, and how these are read.

A line that is read becomes a tuple: its word, and what else it tells. A value line has the word "value".
"""

from bailiwick.base.numerals import read_integer, read_number, read_place
from bailiwick.base.words import is_word
from bailiwick.errors import ParseError
from bailiwick.text.values import read_value, value_line
from bailiwick.tree.deeds import is_unit

KEEPS = {"keep": True, "drop": False}
PART_WORDS = ("put", "drop", "clear", "set", "raise", "extras")


def _class_lines(classes):
    """The lines of some classes."""
    return ["class: " + name for name in classes]


def _part_lines(part):
    """The lines of a part of a change."""
    word = part[0]
    if word == "extras":
        return ["extras:"] + _class_lines(part[1])
    if word in ("put", "drop"):
        return [word + ": " + value_line(part[1], part[2])]
    if word == "set":
        return ["set: " + part[1]] + [value_line(part[1], text) for text in part[2]]
    if word == "raise":
        return ["raise: " + part[1] + " " + str(part[2])]
    return ["clear: " + part[1]]


def _deed_lines(deed):
    """The lines of a deed."""
    word = deed[0]
    number = str(deed[1])
    if word == "add":
        first = ["add: " + number + " " + str(deed[2]), "by: " + value_line(deed[3][0], deed[3][1])]
        return first + _class_lines(deed[4]) + [value_line(each, text) for each, text in deed[5]]
    if word == "change":
        return ["change: " + number] + [line for part in deed[2] for line in _part_lines(part)]
    if word == "move":
        keep = "keep" if deed[4] else "drop"
        return ["move: " + number + " " + str(deed[2]) + " " + keep, "by: " + value_line(deed[3][0], deed[3][1])]
    return ["remove: " + number]


def unit_lines(unit):
    """The lines of a known unit, not folded."""
    return [line for deed in unit for line in _deed_lines(deed)]


def _with_places(words):
    """The number and the place that two words tell, as a tuple; None if they tell none."""
    number = read_number(words[0])
    above = read_place(words[1])
    return None if number is None or above is None else (number, above)


def _read_pair(rest, is_strict):
    """What a line with a value tells behind its word, or None."""
    return read_value(rest, is_strict)


def _read_add(rest, is_strict):
    """What the line of an add tells behind its word, or None."""
    words = rest.split(" ")
    return _with_places(words) if len(words) == 2 else None


def _read_move(rest, is_strict):
    """What the line of a move tells behind its word, or None."""
    words = rest.split(" ")
    if len(words) != 3 or words[2] not in KEEPS:
        return None
    places = _with_places(words)
    return None if places is None else (*places, KEEPS[words[2]])


def _read_one(rest, is_strict):
    """What a line with a number alone tells behind its word, or None."""
    number = read_number(rest)
    return None if number is None else (number,)


def _read_word(rest, is_strict):
    """What a line with a type or class alone tells behind its word, or None."""
    return (rest,) if is_word(rest) else None


def _read_raise(rest, is_strict):
    """What the line of a part that raises tells behind its word, or None."""
    word, _, signs = rest.partition(" ")
    by = read_integer(signs)
    return None if not is_word(word) or by is None else (word, by)


# What follows each word and its colon, and one blank behind it. Behind `extras:` nothing follows.
READERS = {
    "add": _read_add,
    "by": _read_pair,
    "class": _read_word,
    "change": _read_one,
    "put": _read_pair,
    "drop": _read_pair,
    "clear": _read_word,
    "set": _read_word,
    "raise": _read_raise,
    "move": _read_move,
    "remove": _read_one,
}


def read_order(line, is_strict):
    """What a line of a unit tells by its form alone; None if it has the form of none."""
    if line == "extras:":
        return ("extras",)
    word, _, rest = line.partition(": ")
    if word not in READERS:
        pair = read_value(line, is_strict)
        return None if pair is None else ("value", *pair)
    action = READERS[word]
    told = action(rest, is_strict)
    return None if told is None else (word, *told)


class Orders:
    """What the lines of a record tell, from which the deeds of a unit are taken."""

    def __init__(self, rows, many):
        self._rows = rows
        self._many = many
        self._at = 0

    def _is_at(self, words):
        """Whether the next line has one of some words."""
        return self._at < len(self._rows) and self._rows[self._at][0] in words

    def _take(self, words):
        """Takes the next line, which must have one of some words."""
        if not self._is_at(words):
            raise ParseError(self._many)
        self._at += 1
        return self._rows[self._at - 1]

    def _take_all(self, word):
        """Takes all next lines with a word, and returns what they tell behind it."""
        found = []
        while self._is_at((word,)):
            found.append(self._take((word,))[1:])
        return found

    def _take_classes(self):
        """Takes all next lines with classes."""
        return tuple([row[0] for row in self._take_all("class")])

    def _take_part(self):
        """Takes the lines of a part of a change."""
        row = self._take(PART_WORDS)
        if row[0] == "extras":
            return ("extras", self._take_classes())
        if row[0] != "set":
            return row
        pairs = self._take_all("value")
        if any([word != row[1] for word, text in pairs]):
            raise ParseError(self._many)
        return ("set", row[1], tuple([text for word, text in pairs]))

    def _take_deed(self):
        """Takes the lines of a deed."""
        row = self._take(("add", "change", "move", "remove"))
        if row[0] == "add":
            pair = self._take(("by",))[1:]
            return (*row, pair, self._take_classes(), tuple(self._take_all("value")))
        if row[0] == "move":
            return (*row[:3], self._take(("by",))[1:], row[3])
        if row[0] == "remove":
            return row
        parts = []
        while self._is_at(PART_WORDS):
            parts.append(self._take_part())
        return (*row, tuple(parts))

    def take_unit(self):
        """Takes all lines; they must make a unit."""
        deeds = []
        while self._at < len(self._rows):
            deeds.append(self._take_deed())
        unit = tuple(deeds)
        if not is_unit(unit):
            raise ParseError(self._many)
        return unit
