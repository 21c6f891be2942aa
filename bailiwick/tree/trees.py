"""Entries and trees by a schema, and the ways and names in a tree."""

from bailiwick.base.kinds import known_form
from bailiwick.base.names import is_name
from bailiwick.base.words import (
    are_ascending_words, are_pairs, are_words, is_number, is_pair, is_place, is_text, is_word, need_word,
)
from bailiwick.errors import InvalidName, InvalidNumber, InvalidSchema, InvalidTree, UnknownNumber
from bailiwick.rules.schemas import Schema

MAX_ENTRIES = 60
MAX_LEVEL = 8
MAX_VALUES = 60


def _is_value(value):
    """Whether the value is a triple of a word and two texts."""
    if not isinstance(value, tuple) or len(value) != 3:
        return False
    return is_word(value[0]) and is_text(value[1]) and is_text(value[2])


def are_values(value):
    """Whether the value is a tuple of values as an entry has them."""
    if not isinstance(value, tuple) or len(value) > MAX_VALUES:
        return False
    if not all([_is_value(each) for each in value]):
        return False
    # Ascending triples of which no two have the same word and form ascend by these two alone.
    return all([one[:2] < other[:2] for one, other in zip(value, value[1:])])


def is_plain_entry(value):
    """Whether the value is an entry by what can be told without a schema."""
    if not isinstance(value, tuple) or len(value) != 4:
        return False
    above, naming, classes, values = value
    if not is_place(above) or not is_pair(naming):
        return False
    return are_ascending_words(classes) and len(classes) > 0 and are_values(values)


def are_plain_entries(value):
    """Whether the value is a dict from numbers to such entries, not too many."""
    if not isinstance(value, dict) or len(value) > MAX_ENTRIES:
        return False
    if not all([is_number(number) for number in value]):
        return False
    return all([is_plain_entry(value[number]) for number in value])


def upward_numbers(tree, number):
    """The numbers on the way upward, the entry's own first; none for the root.

    A way that never ends is cut when it is longer than any can be.
    """
    way = []
    while number != 0 and len(way) <= MAX_LEVEL:
        way.append(number)
        number = tree[number][0]
    return way


def naming_text(entry):
    """The text of the value by which an entry is named, or None."""
    for word, form, text in entry[3]:
        if (word, form) == entry[1]:
            return text
    return None


def _have_unlike_names(tree):
    """Whether no two entries right beneath the same one have the same naming."""
    namings = {(entry[0], entry[1]): True for entry in list(tree.values())}
    return len(namings) == len(tree)


def _is_plain_tree(value):
    """Whether the value is a tree by what can be told without a schema."""
    if not are_plain_entries(value):
        return False
    if not all([value[number][0] == 0 or value[number][0] in value for number in value]):
        return False
    if any([len(upward_numbers(value, number)) > MAX_LEVEL for number in value]):
        return False
    if any([naming_text(value[number]) is None for number in value]):
        return False
    return _have_unlike_names(value)


def need_plain_tree(tree):
    """Refuses what is no tree by what can be told without a schema."""
    if not _is_plain_tree(tree):
        raise InvalidTree(tree)


def need_schema(schema):
    """Refuses what is no schema."""
    if not isinstance(schema, Schema):
        raise InvalidSchema(schema)


def need_tree(schema, tree):
    """Refuses what is no schema, or no tree by it."""
    need_schema(schema)
    if not is_known_tree(schema, tree):
        raise InvalidTree(tree)


def need_number(tree, number):
    """Refuses what is no number of an entry of the tree."""
    if not is_number(number) or number not in tree:
        raise UnknownNumber(number)


def need_place(tree, number):
    """Refuses what is neither 0 nor the number of an entry of the tree."""
    if not is_place(number) or (number != 0 and number not in tree):
        raise UnknownNumber(number)


def asked_form(schema, word, text):
    """The form of a text of a type; None if the schema lacks the type or the text does not fit."""
    kind = schema.kind_of(word)
    return None if kind is None else known_form(kind, text)


def own_forms(entry, word):
    """The forms of the values that an entry has of a type itself, ascending."""
    return [form for each, form, text in entry[3] if each == word]


def is_of_class(schema, entry, name):
    """Whether a class of the entry is this class of the schema, or stands beneath it."""
    return any([schema.is_beneath(own, name) for own in entry[2]])


def links_of(schema, entry):
    """The pairs (type, number) of the links of an entry, ascending."""
    return sorted([(word, int(form)) for word, form, text in entry[3] if schema.kind_of(word) == "link"])


def _has_known_values(schema, entry):
    """Whether the schema lets what is known to be an entry without it have its naming and its values."""
    if schema.kind_of(entry[1][0]) == "link":
        return False
    return all([asked_form(schema, word, text) == form for word, form, text in entry[3]])


def _is_known_entry(schema, value):
    """Whether the value is an entry by what is known to be a schema."""
    return is_plain_entry(value) and _has_known_values(schema, value)


def are_known_entries(schema, value):
    """Whether the value is a dict from numbers to entries, not too many, by what is known to be a schema."""
    return are_plain_entries(value) and all([_has_known_values(schema, value[number]) for number in value])


def is_known_tree(schema, value):
    """Whether the value is a tree by what is known to be a schema."""
    if not _is_plain_tree(value) or not all([_has_known_values(schema, value[number]) for number in value]):
        return False
    return all([to in value for number in value for word, to in links_of(schema, value[number])])


def is_entry(schema, value):
    """Whether the value is an entry by the schema."""
    need_schema(schema)
    return _is_known_entry(schema, value)


def is_tree(schema, value):
    """Whether the value is a tree by the schema."""
    need_schema(schema)
    return is_known_tree(schema, value)


def values_row(table):
    """The values of an entry, from a dict from pairs (type, form) to texts."""
    return tuple(sorted([(word, form, table[(word, form)]) for word, form in table]))


def names_row(names):
    """Each of the names once, ascending."""
    return tuple(sorted({name: True for name in names}))


def entry_of(schema, above, pair, classes, pairs):
    """The entry with such a naming, such classes and such values."""
    need_schema(schema)
    if not is_place(above):
        raise InvalidNumber(above)
    if not is_pair(pair) or not are_words(classes) or not are_pairs(pairs):
        raise InvalidTree((pair, classes, pairs))
    table = {}
    for word, text in pairs:
        form = asked_form(schema, word, text)
        if form is None:
            raise InvalidTree(pairs)
        table.setdefault((word, form), text)
    naming = (pair[0], asked_form(schema, pair[0], pair[1]))
    entry = (above, naming, names_row(classes), values_row(table))
    if not _is_known_entry(schema, entry):
        raise InvalidTree(entry)
    return entry


def upward(tree, number):
    """The numbers on the way upward from an entry, its own first."""
    need_plain_tree(tree)
    need_place(tree, number)
    return tuple(upward_numbers(tree, number))


def level(tree, number):
    """How many entries stand on the way upward from an entry."""
    return len(upward(tree, number))


def known_name(tree, number):
    """The name of what is known to be an entry, or the root."""
    return tuple([(tree[each][1][0], naming_text(tree[each])) for each in upward_numbers(tree, number)])


def name_of(tree, number):
    """The name of an entry, its own pair first."""
    need_plain_tree(tree)
    need_place(tree, number)
    return known_name(tree, number)


def known_number(schema, tree, name):
    """The number that has what is known to be a name, 0 for the root, or None."""
    at = 0
    for word, text in name[::-1]:
        naming = (word, asked_form(schema, word, text))
        found = [number for number in tree if tree[number][0] == at and tree[number][1] == naming]
        if found == []:
            return None
        at = found[0]
    return at


def number_of(schema, tree, name):
    """The number of the entry that has an alike name, 0 for the root's, or None."""
    need_tree(schema, tree)
    if not is_name(name):
        raise InvalidName(name)
    return known_number(schema, tree, name)


def children(tree, number):
    """The numbers of the entries right beneath an entry or the root, ascending."""
    need_plain_tree(tree)
    need_place(tree, number)
    return tuple([each for each in sorted(tree) if tree[each][0] == number])


def beneath_numbers(tree, number):
    """The numbers of all entries beneath an entry, or the root, ascending."""
    if number == 0:
        return sorted(tree)
    return [each for each in sorted(tree) if each != number and number in upward_numbers(tree, each)]


def beneath(tree, number):
    """The numbers of all entries beneath an entry or the root, ascending."""
    need_plain_tree(tree)
    need_place(tree, number)
    return tuple(beneath_numbers(tree, number))


def does_stand_beneath(tree, number, other):
    """Whether an entry stands beneath another one, or the root."""
    need_plain_tree(tree)
    need_number(tree, number)
    need_place(tree, other)
    return number in beneath_numbers(tree, other)


def texts_of(tree, number, word):
    """The texts that an entry has of a type itself, by their forms."""
    need_plain_tree(tree)
    need_number(tree, number)
    need_word(word)
    return tuple([text for each, form, text in tree[number][3] if each == word])


def tree_with(tree, number, entry):
    """The tree in which a number has this entry."""
    whole = dict(tree)
    whole[number] = entry
    return {each: whole[each] for each in sorted(whole)}
