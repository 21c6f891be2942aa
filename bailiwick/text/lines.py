"""Lines: the texts of trees and of units, written strictly, and read strictly or laxly."""

from bailiwick.base.numerals import read_number, read_place
from bailiwick.base.words import is_word
from bailiwick.errors import InvalidDeed, InvalidText, ParseError
from bailiwick.text.orders import Orders, read_order, unit_lines
from bailiwick.text.values import read_value, value_line
from bailiwick.tree.deeds import is_unit
from bailiwick.tree.trees import asked_form, is_known_tree, need_schema, need_tree

WIDTH = 60


def _folded(line):
    """The lines that a line becomes when it is folded."""
    further = range(WIDTH, len(line), WIDTH - 1)
    return [line[:WIDTH]] + [" " + line[at:at + WIDTH - 1] for at in further]


def _text_of_record(lines):
    """The text of a record, from its lines that are not folded."""
    return "".join([row + "\n" for line in lines for row in _folded(line)])


def known_record(number, entry):
    """The text of the record of an entry."""
    above, naming, classes, values = entry
    lines = ["entry: " + str(number) + " " + str(above)] + ["class: " + name for name in classes]
    for word, form, text in values:
        star = "*" if (word, form) == naming else ""
        lines.append(star + value_line(word, text))
    return _text_of_record(lines)


def tree_text(schema, tree):
    """The strict text of a tree."""
    need_tree(schema, tree)
    return "\n".join([known_record(number, tree[number]) for number in sorted(tree)])


def units_text(units):
    """The strict text of some units."""
    if not isinstance(units, tuple) or not all([is_unit(unit) for unit in units]):
        raise InvalidDeed(units)
    return "\n".join([_text_of_record(unit_lines(unit)) for unit in units])


def _can_stand(row, ahead, is_strict):
    """Whether a line can stand behind another one, whatever it tells; behind "" at the beginning."""
    if is_strict and len(row) > WIDTH:
        return False
    if not row.startswith(" "):
        return True
    return ahead != "" and (not is_strict or (len(ahead) == WIDTH and len(row) >= 2))


class Sheet:
    """The lines of a text as they are when none is folded, up to the first one that cannot be a line at all.

    `many` is how many lines end in the text, `wrong` the place of that one, or None; `lines` are pairs of the
    place of the first line of a fold and the whole.
    """

    def __init__(self, text, is_strict):
        rows = text.split("\n")
        last = rows.pop()
        self.many = len(rows)
        # A last line without a newline cannot stand.
        self.wrong = None if last == "" else self.many
        self.lines = []
        ahead = ""
        for at, row in enumerate(rows):
            if not _can_stand(row, ahead, is_strict):
                self.wrong = at
                break
            if row.startswith(" "):
                begin, line = self.lines.pop()
                self.lines.append((begin, line + row[1:]))
            else:
                self.lines.append((at, row))
            ahead = row
        if not is_strict:
            self.lines = [(at, line) for at, line in self.lines if not line.startswith("#")]


def _sheet_of(text, is_strict):
    """The lines of a text."""
    if not isinstance(text, str) or not (text.isascii() and text.replace("\n", "").isprintable()):
        raise InvalidText(text)
    return Sheet(text, is_strict)


class TreeReader:
    """Reads a tree, line by line."""

    def __init__(self, schema, is_strict):
        self._schema = schema
        self._is_strict = is_strict
        self._entries = {}
        # Of the record that is read, or of the last one.
        self._number = 0
        self._above = 0
        self._classes = []
        self._values = []
        self._naming = None
        self._is_within = False

    def take_line(self, line):
        """Reads a line, and tells whether it can stand here."""
        if line == "":
            return self.end_record() if self._is_within else not self._is_strict
        if not self._is_within:
            return self._begin(line)
        if line.startswith("class: "):
            return self._read_class(line[len("class: "):])
        return self._read_value(line)

    def end_record(self):
        """Ends the record that is read, and tells whether it can end here."""
        if self._naming is None:
            return False
        self._entries[self._number] = (self._above, self._naming, tuple(self._classes), tuple(self._values))
        self._is_within = False
        return True

    def is_within(self):
        """Whether a record is read."""
        return self._is_within

    def entries(self):
        """The entries of all records that were read."""
        return dict(self._entries)

    def _begin(self, line):
        """Reads the first line of a record."""
        word, sign, rest = line.partition(": ")
        first, blank, second = rest.partition(" ")
        number = read_number(first)
        above = read_place(second)
        if word != "entry" or number is None or above is None or number <= self._number:
            return False
        self._number = number
        self._above = above
        self._classes = []
        self._values = []
        self._naming = None
        self._is_within = True
        return True

    def _read_class(self, name):
        """Reads a class, which must come behind the one ahead of it."""
        if not is_word(name) or self._values != [] or any([name <= other for other in self._classes]):
            return False
        self._classes.append(name)
        return True

    def _read_value(self, line):
        """Reads a value, which must come behind the one ahead of it."""
        is_naming = line.startswith("*")
        pair = read_value(line[1:] if is_naming else line, self._is_strict)
        if pair is None or self._classes == []:
            return False
        value = (pair[0], asked_form(self._schema, pair[0], pair[1]), pair[1])
        if value[1] is None or (self._values != [] and value <= self._values[-1]):
            return False
        if is_naming and self._naming is not None:
            return False
        if is_naming:
            self._naming = value[:2]
        self._values.append(value)
        return True


def _read_known_tree(schema, sheet, is_strict):
    """The tree that the lines of a text tell."""
    reader = TreeReader(schema, is_strict)
    for at, line in sheet.lines:
        if not reader.take_line(line):
            raise ParseError(at)
    if sheet.wrong is not None:
        raise ParseError(sheet.wrong)
    if reader.is_within():
        can_end = reader.end_record()
    else:
        # Strict, another record must stand behind an empty line.
        can_end = not is_strict or sheet.lines == []
    entries = reader.entries()
    if not can_end or not is_known_tree(schema, entries):
        raise ParseError(sheet.many)
    return entries


def read_tree(schema, text):
    """The tree with just this strict text."""
    need_schema(schema)
    return _read_known_tree(schema, _sheet_of(text, True), True)


def read_tree_lax(schema, text):
    """The tree with a lax text."""
    need_schema(schema)
    return _read_known_tree(schema, _sheet_of(text, False), False)


def _parted(rows):
    """Rows parted by None, as lists, perhaps empty ones."""
    parts = [[]]
    for row in rows:
        if row is None:
            parts.append([])
        else:
            parts[-1].append(row)
    return parts


def _read_known_units(sheet, is_strict):
    """The units that the lines of a text tell."""
    rows = []
    for at, line in sheet.lines:
        row = read_order(line, is_strict)
        if row is None and line != "":
            raise ParseError(at)
        rows.append(row)
    if sheet.wrong is not None:
        raise ParseError(sheet.wrong)
    parts = _parted(rows)
    if not is_strict or rows == []:
        parts = [part for part in parts if part != []]
    return tuple([Orders(part, sheet.many).take_unit() for part in parts])


def read_units(text):
    """The units with just this strict text."""
    return _read_known_units(_sheet_of(text, True), True)


def read_units_lax(text):
    """The units with a lax text."""
    return _read_known_units(_sheet_of(text, False), False)
