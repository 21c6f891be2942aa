"""The faults of classes that are not the house's."""

from bailiwick.rules.house import HOUSE_EXTRA, HOUSE_SHAPES
from bailiwick.rules.ways import all_above, borne_types, holding_named, holding_places, is_longer

# The families that can stand directly above each family.
UPPER = {"extra": ("extra", "frame"), "frame": ("frame",), "shape": ("frame", "shape")}


class Draft:
    """Classes that could become those of a schema, with what they are asked by.

    `kinds` are those of all types, the house's included; `most` and `deep`
    bound how many classes there are, and stand on one way upward.
    """

    def __init__(self, classes, kinds, most, deep):
        self.rows = classes
        self.kinds = kinds
        self.most = most
        self.deep = deep
        self.table = {each.name: each for each in classes}
        self.shapes = [each for each in classes if each.family == "shape"]


def _twice(draft):
    """The names that another class, or one of the house, has, too."""
    names = [each.name for each in draft.rows]
    return [name for name in names if names.count(name) > 1 or name == HOUSE_EXTRA or name in HOUSE_SHAPES]


def _has_wrong_family(draft, each):
    """Whether a class stands above this one that is not there or cannot."""
    families = [draft.table[name].family for name in each.above if name in draft.table]
    if len(families) < len(each.above) or families.count("shape") > 1:
        return True
    return any([family not in UPPER[each.family] for family in families])


def _wrong_family(draft):
    """The classes above which a class stands that is not there or cannot."""
    return [each.name for each in draft.rows if _has_wrong_family(draft, each)]


def _in_circle(draft):
    """The classes that would stand beneath themselves, or beneath one that does."""
    table = draft.table
    circles = [name for name in table if name in all_above(table, name)]
    # One of a circle stands beneath itself, so it is found here, too.
    return [name for name in table if any([upper in circles for upper in all_above(table, name)])]


def _too_deep(draft):
    """The classes with which some way upward is too long."""
    return [name for name in draft.table if is_longer(draft.table, name, draft.deep)]


def _not_own(draft):
    """The classes that tell what is for shapes alone."""
    others = [each for each in draft.rows if each.family != "shape"]
    return [each.name for each in others if each.named + each.places + each.lets != ()]


def _wrong_bears(draft):
    """The classes that tell a word that is no type."""
    found = []
    for each in draft.rows:
        if any([word not in draft.kinds for word in each.must + each.may + each.named]):
            found.append(each.name)
    return found


def _has_wrong_named(draft, name):
    """Whether a shape lacks types that name it, or one of them cannot."""
    words = holding_named(draft.table, name)
    borne = borne_types(draft.table, name)
    if words == ():
        return True
    return any([draft.kinds[word] in ("flag", "link") or word not in borne for word in words])


def _wrong_named(draft):
    """The shapes that lack types that name them, or have one that cannot."""
    return [each.name for each in draft.shapes if _has_wrong_named(draft, each.name)]


def _wrong_place(draft):
    """The shapes that lack places, or tell one that is none."""
    known = ["", *HOUSE_SHAPES] + [each.name for each in draft.shapes]
    found = []
    for each in draft.shapes:
        is_wrong = any([place not in known for place in each.places])
        if is_wrong or holding_places(draft.table, each.name) == ():
            found.append(each.name)
    return found


def _wrong_lets(draft):
    """The shapes that tell an extra that is none."""
    extras = [HOUSE_EXTRA] + [each.name for each in draft.rows if each.family == "extra"]
    return [each.name for each in draft.shapes if any([extra not in extras for extra in each.lets])]


def _too_many(draft):
    """The name that stands for all classes, if they are too many."""
    return [""] if len(draft.rows) > draft.most else []


# In the order of the faults: each rule rests on those ahead of it.
RULES = {
    "class": _twice,
    "family": _wrong_family,
    "circle": _in_circle,
    "deep": _too_deep,
    "own": _not_own,
    "bears": _wrong_bears,
    "named": _wrong_named,
    "place": _wrong_place,
    "lets": _wrong_lets,
    "classes": _too_many,
}


def class_fault(draft):
    """The first fault of the classes, or None."""
    for code in RULES:
        rule = RULES[code]
        names = rule(draft)
        if names != []:
            return (code, min(names))
    return None
