"""The types of values, those of the house, and the faults of types."""

from bailiwick.base.kinds import KINDS
from bailiwick.base.words import is_word, need_word
from bailiwick.errors import InvalidOperation, InvalidWord

MAX_TYPES = 20
MAX_HIGH = 4
# Names, kinds, and whether a type is single; ascending by name.
HOUSE = (
    ("below", "flag", True),
    ("chosen", "exact", False),
    ("grants", "flag", True),
    ("ground", "link", True),
    ("label", "text", True),
    ("least", "number", True),
    ("may", "exact", False),
    ("member", "link", False),
    ("most", "number", True),
    ("of", "exact", False),
    ("rank", "number", True),
    ("to", "link", True),
    ("unshared", "exact", False),
    ("what", "exact", False),
    ("who", "exact", False),
    ("whom", "link", False),
    ("without", "link", False),
)


class Type:
    """A type: its name, its kind, what stands above it, and whether it is single."""

    def __init__(self, name, kind, above=None, *, single=False):
        need_word(name)
        if kind not in KINDS:
            raise InvalidOperation(kind)
        if above is not None and not is_word(above):
            raise InvalidWord(above)
        if not isinstance(single, bool):
            raise InvalidOperation(single)
        self._name = name
        self._kind = kind
        self._above = above
        self._single = single

    @property
    def name(self):
        """The name of the type."""
        return self._name

    @property
    def kind(self):
        """The kind of its values."""
        return self._kind

    @property
    def above(self):
        """The name of the type directly above it, or None."""
        return self._above

    @property
    def is_single(self):
        """Whether an entry may have just one value of it."""
        return self._single

    def __eq__(self, other):
        return (isinstance(other, Type) and self._name == other._name and self._kind == other._kind
                and self._above == other._above and self._single == other._single)


def house_types():
    """The types of the house, ascending by name."""
    return tuple([Type(name, kind, single=single) for name, kind, single in HOUSE])


def are_types(value):
    """Whether the value is a tuple of types."""
    return isinstance(value, tuple) and all([isinstance(each, Type) for each in value])


def upward_types(aboves, name):
    """The way upward from a type, itself first, by a dict of what stands above.

    A way that never ends is cut when it is longer than there are types.
    """
    way = []
    while name is not None and len(way) <= len(aboves):
        way.append(name)
        name = aboves[name]
    return way


def _aboves(types):
    """What stands directly above each type."""
    return {each.name: each.above for each in types}


def _twice(types):
    """The names that another type, or one of the house, has, too."""
    names = [each.name for each in types]
    house = [name for name, kind, single in HOUSE]
    return [name for name in names if names.count(name) > 1 or name in house]


def _wrong_above(types):
    """The types above which no type of the same kind stands, though one is told."""
    kinds = {each.name: each.kind for each in types}
    return [each.name for each in types if each.above is not None and kinds.get(each.above) != each.kind]


def _in_ring(types):
    """The types from which the way upward never ends."""
    aboves = _aboves(types)
    return [name for name in aboves if len(upward_types(aboves, name)) > len(aboves)]


def _too_high(types):
    """The types with which the way upward is too long."""
    aboves = _aboves(types)
    return [name for name in aboves if len(upward_types(aboves, name)) > MAX_HIGH]


def _too_many(types):
    """The name that stands for all types, if they are too many."""
    return [""] if len(types) > MAX_TYPES else []


# In the order of the faults: each rule rests on those ahead of it.
RULES = {"twice": _twice, "above": _wrong_above, "ring": _in_ring, "high": _too_high, "many": _too_many}


def type_fault(types):
    """The first fault of types that are not the house's, or None."""
    if not are_types(types):
        raise InvalidOperation(types)
    for code in RULES:
        rule = RULES[code]
        names = rule(types)
        if names != []:
            return (code, min(names))
    return None
