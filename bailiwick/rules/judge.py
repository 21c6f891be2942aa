"""The judge: which faults entries have by the rules of a schema."""

from bailiwick.base.words import are_numbers, is_word
from bailiwick.errors import InvalidOperation, InvalidTree, InvalidWord
from bailiwick.tree.trees import (
    asked_form, is_known_tree, is_plain_entry, names_row, need_number, need_schema, need_tree,
)

CODES = (
    "class", "frame", "shape", "double", "extra", "word", "kind", "single", "may", "must", "naming", "place",
)
# The rules behind the second row rest on classes without a fault of the first one.
FIRM = ("class", "frame", "shape")
RESTING = ("extra", "may", "must", "naming", "place")


def _of_family(schema, entry, family):
    """The own classes of a family, ascending; with None those that the schema lacks."""
    return [name for name in entry[2] if schema.family_of(name) == family]


def _types_of(entry):
    """The types of the values that an entry has, ascending."""
    return names_row([word for word, form, text in entry[3]])


def _lacking_classes(schema, upper, entry):
    """The own classes that the schema lacks."""
    return _of_family(schema, entry, None)


def _own_frames(schema, upper, entry):
    """The own classes that are frames."""
    return _of_family(schema, entry, "frame")


def _wrong_shapes(schema, upper, entry):
    """The root's word if there is no shape, or the shapes but the least one."""
    shapes = _of_family(schema, entry, "shape")
    return shapes[1:] if shapes != [] else [""]


def _doubled_classes(schema, upper, entry):
    """The own classes beneath which another own class stands."""
    found = []
    for name in entry[2]:
        if any([other != name and schema.is_beneath(other, name) for other in entry[2]]):
            found.append(name)
    return found


def _wrong_extras(schema, upper, entry):
    """The own extras that the shape does not let."""
    lets = schema.extras_of(schema.shape_of(entry[2]))
    return [name for name in _of_family(schema, entry, "extra") if name not in lets]


def _lacking_types(schema, upper, entry):
    """The types that the schema lacks."""
    return [word for word in _types_of(entry) if schema.kind_of(word) is None]


def _wrong_kinds(schema, upper, entry):
    """The types of which a text does not fit, or has another form than the told one."""
    found = []
    for word, form, text in entry[3]:
        if schema.kind_of(word) is not None and asked_form(schema, word, text) != form:
            found.append(word)
    return names_row(found)


def _wrong_singles(schema, upper, entry):
    """The single types with more than one value."""
    words = [word for word, form, text in entry[3]]
    return [word for word in _types_of(entry) if schema.is_single_type(word) and words.count(word) > 1]


def _not_let(schema, upper, entry):
    """The types of the schema that are borne and that the classes do not let be borne."""
    let = schema.must_bear(entry[2]) + schema.may_bear(entry[2])
    return [word for word in _types_of(entry) if schema.kind_of(word) is not None and word not in let]


def _not_borne(schema, upper, entry):
    """The types that the classes must bear, of whose reach there is no value."""
    borne = _types_of(entry)
    return [word for word in schema.must_bear(entry[2]) if not any([each in borne for each in schema.reach(word)])]


def _wrong_naming(schema, upper, entry):
    """The type of the naming, if it does not name entries of the shape."""
    word = entry[1][0]
    return [] if word in schema.naming_types(schema.shape_of(entry[2])) else [word]


def _wrong_place(schema, upper, entry):
    """The shape, if it cannot stand beneath the one above."""
    shape = schema.shape_of(entry[2])
    return [] if upper is None or schema.can_stand(shape, upper) else [shape]


RULES = {
    "class": _lacking_classes,
    "frame": _own_frames,
    "shape": _wrong_shapes,
    "double": _doubled_classes,
    "extra": _wrong_extras,
    "word": _lacking_types,
    "kind": _wrong_kinds,
    "single": _wrong_singles,
    "may": _not_let,
    "must": _not_borne,
    "naming": _wrong_naming,
    "place": _wrong_place,
}


def _known_faults(schema, upper, entry):
    """All faults of what is known to be an entry beneath a shape, the root's word or None."""
    found = []
    for code in CODES:
        if code in RESTING and any([each in FIRM for each, what in found]):
            continue
        rule = RULES[code]
        found.extend([(code, what) for what in rule(schema, upper, entry)])
    return tuple(found)


def entry_faults(schema, shape, entry):
    """All faults of an entry beneath an entry of a shape, the root, or an entry without a shape."""
    need_schema(schema)
    if shape is not None and shape != "" and not is_word(shape):
        raise InvalidWord(shape)
    if not is_plain_entry(entry):
        raise InvalidTree(entry)
    return _known_faults(schema, shape, entry)


def known_faults(schema, tree, number):
    """All faults of an entry of what is known to be a tree, loose links left aside."""
    above = tree[number][0]
    upper = "" if above == 0 else schema.shape_of(tree[above][2])
    return _known_faults(schema, upper, tree[number])


def faults(schema, tree, number):
    """All faults of an entry of a tree."""
    need_tree(schema, tree)
    need_number(tree, number)
    return known_faults(schema, tree, number)


def _first_of(schema, tree, numbers):
    """The first fault of the entries with these numbers, which ascend, or None."""
    for number in numbers:
        for code, what in known_faults(schema, tree, number):
            return (number, code, what)
    return None


def first_fault(schema, tree, numbers=None):
    """The first fault of the entry with the least number that has one, perhaps among some alone, or None."""
    need_tree(schema, tree)
    if numbers is None:
        return _first_of(schema, tree, sorted(tree))
    if not are_numbers(numbers):
        raise InvalidOperation(numbers)
    for number in numbers:
        need_number(tree, number)
    return _first_of(schema, tree, sorted(numbers))


def is_right(schema, value):
    """Whether the value is a right tree."""
    need_schema(schema)
    return is_known_tree(schema, value) and _first_of(schema, value, sorted(value)) is None
