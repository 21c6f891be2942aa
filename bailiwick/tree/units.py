"""Units of deeds, which are done as a whole or not at all, and wishes, which tell entries by names."""

from bailiwick.base.names import is_name, read_name
from bailiwick.base.words import are_numbers, first_word
from bailiwick.errors import InvalidDeed, InvalidOperation, ParseError, Refused
from bailiwick.rules.judge import known_faults
from bailiwick.tree.deeds import is_deed, is_unit
from bailiwick.tree.doing import known_touched, tried
from bailiwick.tree.links import loose_of
from bailiwick.tree.trees import beneath_numbers, known_number, need_number, need_plain_tree, need_tree, upward_numbers

MAX_DEEDS = 20
# Where names stand in wishes.
PLACES = {"add": (2,), "change": (1,), "move": (1, 2), "remove": (1,)}


def _first_code(schema, tree, number):
    """The code of what is wrong with a touched entry behind a unit, or None."""
    if loose_of(schema, tree, number) != []:
        return "link"
    for code, what in known_faults(schema, tree, number):
        return code
    return None


class Work:
    """A unit in the doing: the tree behind the deeds so far, and the entries that they touched."""

    def __init__(self, schema, tree, used):
        self._schema = schema
        self._tree = tree
        self._used = used
        self._marks = {}

    def now(self):
        """The tree behind the deeds so far."""
        return self._tree

    def step(self, deed):
        """Does a deed; returns the code with which it falls, or None."""
        if deed[0] == "add" and deed[1] in self._used:
            return "used"
        behind, code = tried(self._schema, self._tree, deed)
        if code is not None:
            return code
        for number in known_touched(self._schema, self._tree, deed):
            self._marks[number] = True
        self._tree = behind
        return None

    def touched_now(self):
        """The numbers of the touched entries that are there, ascending."""
        return tuple([number for number in sorted(self._marks) if number in self._tree])

    def fault(self):
        """The pair of the code and the number of the first touched entry with which something is wrong, or None."""
        for number in self.touched_now():
            code = _first_code(self._schema, self._tree, number)
            if code is not None:
                return code, number
        return None


def outcome_of(schema, tree, unit, used):
    """The pair of what is told of a known unit, and the tuple of the touched entries that are there behind it."""
    work = Work(schema, tree, used)
    for at, deed in enumerate(unit):
        code = work.step(deed)
        if code is not None:
            return ("fallen", at, code, deed[1]), ()
    fault = work.fault()
    told = ("done", work.now()) if fault is None else ("fallen", len(unit), fault[0], fault[1])
    return told, work.touched_now()


def need_unit(unit):
    """Refuses what is no unit."""
    if not is_unit(unit):
        raise InvalidDeed(unit)


def do_unit(schema, tree, unit, *, used=()):
    """Does a unit: tells the tree behind it, or at which deed, by which code and at which number it falls."""
    need_tree(schema, tree)
    need_unit(unit)
    if not are_numbers(used):
        raise InvalidOperation(used)
    told, _ = outcome_of(schema, tree, unit, used)
    return told


def unit_touched(schema, tree, unit):
    """The numbers of the touched entries that are there behind a unit that is done, ascending."""
    need_tree(schema, tree)
    need_unit(unit)
    told, there = outcome_of(schema, tree, unit, ())
    if told[0] == "fallen":
        raise Refused(told[2])
    return there


def _with_place(wish, at, number):
    """The wish with a number in one of its places."""
    return wish[:at] + (number,) + wish[at + 1:]


def is_wish(value):
    """Whether the value is a wish, in shape, words and texts."""
    word = first_word(value)
    if word not in PLACES:
        return False
    for at in PLACES[word]:
        if at >= len(value) or not is_name(value[at]):
            return False
        # Any number makes a deed of the wish, if it is one else.
        value = _with_place(value, at, 1)
    return is_deed(value)


def _number_at(schema, tree, name, is_above):
    """The number that a name has; the root's name has one only where something can stand beneath it."""
    number = known_number(schema, tree, name)
    if number is None or (number == 0 and not is_above):
        raise Refused(name)
    return number


def _resolved_text(schema, tree, word, text):
    """The text of a value: for the text of a name in the place of a link, that of its number."""
    if schema.kind_of(word) != "link":
        return text
    try:
        name = read_name(text)
    except ParseError:
        # A number, which is no text of a name, or neither: then the deed will fall by this text.
        return text
    return str(_number_at(schema, tree, name, False))


def _resolved_part(schema, tree, part):
    """The part with numbers in the place of the names of links."""
    if part[0] in ("put", "drop"):
        return (part[0], part[1], _resolved_text(schema, tree, part[1], part[2]))
    if part[0] == "set":
        return ("set", part[1], tuple([_resolved_text(schema, tree, part[1], text) for text in part[2]]))
    return part


def _resolved_deed(schema, tree, wish):
    """The deed of what is known to be a wish."""
    deed = wish
    for at in PLACES[wish[0]]:
        deed = _with_place(deed, at, _number_at(schema, tree, wish[at], at == 2))
    if wish[0] == "add":
        return deed[:5] + (tuple([(word, _resolved_text(schema, tree, word, text)) for word, text in wish[5]]),)
    if wish[0] == "change":
        return deed[:2] + (tuple([_resolved_part(schema, tree, part) for part in wish[2]]),)
    return deed


def resolved(schema, tree, wish):
    """The deed of a wish: each name gives way to the number that it has in the tree."""
    need_tree(schema, tree)
    if not is_wish(wish):
        raise InvalidDeed(wish)
    return _resolved_deed(schema, tree, wish)


def _are_wishes(value):
    """Whether the value is a tuple of wishes that can make a unit."""
    return isinstance(value, tuple) and 1 <= len(value) <= MAX_DEEDS and all([is_wish(each) for each in value])


def resolved_unit(schema, tree, wishes):
    """The unit of wishes, each resolved in the tree behind the deeds ahead of it."""
    need_tree(schema, tree)
    if not _are_wishes(wishes):
        raise InvalidDeed(wishes)
    unit = []
    for wish in wishes:
        if unit != []:
            tree, code = tried(schema, tree, unit[-1])
            if code is not None:
                raise Refused(code)
        unit.append(_resolved_deed(schema, tree, wish))
    return tuple(unit)


def all_beneath(tree, number):
    """The deeds that remove an entry and all entries beneath it, the deepest first."""
    need_plain_tree(tree)
    need_number(tree, number)
    rows = [(-len(upward_numbers(tree, each)), each) for each in [number, *beneath_numbers(tree, number)]]
    return tuple([("remove", each) for lower, each in sorted(rows)])
