"""How deeds are done on trees, one by one, or fall. Loose links are not asked here.

What is passed is known to be a schema, a tree that may have loose links, and a deed.
"""

from bailiwick.base.kinds import MOST_VALUE
from bailiwick.tree.links import known_links_to, known_removed
from bailiwick.tree.trees import (
    MAX_ENTRIES, MAX_LEVEL, MAX_VALUES, asked_form, beneath_numbers, names_row, tree_with, upward_numbers, values_row,
)


class Fall(Exception):
    """A deed falls with this code."""

    def __init__(self, code):
        Exception.__init__(self, code)
        self.code = code


def _fall_if(test, code):
    """Lets the deed fall if the test holds."""
    if test:
        raise Fall(code)


def _need_type(schema, word):
    """Lets the deed fall if the schema lacks the type."""
    _fall_if(schema.kind_of(word) is None, "word")


def _key_of(schema, word, text):
    """The pair (type, form) of a text of a type, which are asked together."""
    _need_type(schema, word)
    form = asked_form(schema, word, text)
    _fall_if(form is None, "kind")
    return (word, form)


def _table_of(entry):
    """The values of an entry as a dict from pairs (type, form) to texts."""
    return {(word, form): text for word, form, text in entry[3]}


def _keys_of_type(table, word):
    """The pairs (type, form) of the values of a type itself."""
    return [key for key in table if key[0] == word]


def _need_room(table):
    """Lets the deed fall if there are too many values."""
    _fall_if(len(table) > MAX_VALUES, "many")


def _need_free(tree, number, above, naming):
    """Lets the deed fall if another entry right beneath the same one has the naming."""
    _fall_if(any([each != number and tree[each][:2] == (above, naming) for each in tree]), "taken")


def _added(schema, tree, deed):
    """The tree behind an add."""
    _, number, above, pair, classes, pairs = deed
    _fall_if(number in tree, "used")
    _fall_if(above != 0 and above not in tree, "unknown")
    _fall_if(len(tree) >= MAX_ENTRIES, "full")
    _fall_if(len(upward_numbers(tree, above)) >= MAX_LEVEL, "deep")
    naming = _key_of(schema, pair[0], pair[1])
    table = {}
    for word, text in pairs:
        table.setdefault(_key_of(schema, word, text), text)
    _need_room(table)
    _fall_if(naming not in table or schema.kind_of(pair[0]) == "link", "naming")
    _need_free(tree, number, above, naming)
    return tree_with(tree, number, (above, naming, names_row(classes), values_row(table)))


def _put(schema, table, part):
    """Puts a value."""
    table.setdefault(_key_of(schema, part[1], part[2]), part[2])


def _drop(schema, table, part):
    """Drops the alike value, if it is there."""
    key = _key_of(schema, part[1], part[2])
    if key in table:
        del table[key]


def _clear(schema, table, part):
    """Drops all values of a type itself."""
    _need_type(schema, part[1])
    for key in _keys_of_type(table, part[1]):
        del table[key]


def _set(schema, table, part):
    """Puts texts in the place of all values of a type itself."""
    keys = [_key_of(schema, part[1], text) for text in part[2]]
    # Without texts, too, the type is asked here.
    _clear(schema, table, part)
    for key, text in zip(keys, part[2]):
        table.setdefault(key, text)


def _raise(schema, table, part):
    """Puts a sum in the place of the one value of a type itself."""
    _need_type(schema, part[1])
    keys = _keys_of_type(table, part[1])
    _fall_if(len(keys) != 1, "single")
    _fall_if(schema.kind_of(part[1]) != "number", "kind")
    total = int(table[keys[0]]) + part[2]
    _fall_if(total < -MOST_VALUE or total > MOST_VALUE, "range")
    del table[keys[0]]
    table[(part[1], str(total))] = str(total)


PARTS = {"put": _put, "drop": _drop, "clear": _clear, "set": _set, "raise": _raise}


def _with_extras(schema, classes, extras):
    """The classes with these in the place of all extras among them."""
    _fall_if(any([schema.family_of(name) != "extra" for name in extras]), "class")
    kept = [name for name in classes if schema.family_of(name) != "extra"]
    row = names_row([*kept, *extras])
    _fall_if(row == (), "class")
    return row


def _changed(schema, tree, deed):
    """The tree behind a change."""
    _, number, parts = deed
    _fall_if(number not in tree, "unknown")
    above, naming, classes, values = tree[number]
    table = _table_of(tree[number])
    for part in parts:
        if part[0] == "extras":
            classes = _with_extras(schema, classes, part[1])
        else:
            action = PARTS[part[0]]
            action(schema, table, part)
    _need_room(table)
    _fall_if(naming not in table, "naming")
    return tree_with(tree, number, (above, naming, classes, values_row(table)))


def _depth_beneath(tree, number):
    """How many levels the deepest entry beneath an entry stands below it."""
    own = len(upward_numbers(tree, number))
    return max([len(upward_numbers(tree, each)) - own for each in beneath_numbers(tree, number)], default=0)


def _moved(schema, tree, deed):
    """The tree behind a move."""
    _, number, above, pair, keep = deed
    _fall_if(number not in tree or (above != 0 and above not in tree), "unknown")
    way = upward_numbers(tree, above)
    _fall_if(number in way, "ring")
    _fall_if(len(way) + 1 + _depth_beneath(tree, number) > MAX_LEVEL, "deep")
    naming = _key_of(schema, pair[0], pair[1])
    _fall_if(schema.kind_of(pair[0]) == "link", "naming")
    _need_free(tree, number, above, naming)
    table = _table_of(tree[number])
    elder = tree[number][1]
    table.setdefault(naming, pair[1])
    if not keep and elder != naming:
        del table[elder]
    _need_room(table)
    return tree_with(tree, number, (above, naming, tree[number][2], values_row(table)))


def _removed(schema, tree, deed):
    """The tree behind a removal."""
    number = deed[1]
    _fall_if(number not in tree, "unknown")
    _fall_if(beneath_numbers(tree, number) != [], "beneath")
    return known_removed(schema, tree, number)


DEEDS = {"add": _added, "change": _changed, "move": _moved, "remove": _removed}


def tried(schema, tree, deed):
    """The pair of the tree behind a deed and None, or, if it falls, of None and the code."""
    action = DEEDS[deed[0]]
    try:
        return action(schema, tree, deed), None
    except Fall as fall:
        return None, fall.code


def known_touched(schema, tree, deed):
    """The numbers of the entries whose rules a deed that is done on the tree can break, ascending."""
    if deed[0] != "remove":
        return [deed[1]]
    return list(names_row([number for number, word in known_links_to(schema, tree, deed[1]) if number != deed[1]]))
