"""Deeds and units: what they are, and how single deeds are done."""

from bailiwick.base.words import are_words, first_word, is_number, is_pair, is_place, is_text, is_whole, is_word
from bailiwick.errors import InvalidDeed, Refused
from bailiwick.tree.doing import known_touched, tried
from bailiwick.tree.links import loose_of
from bailiwick.tree.trees import naming_text, need_tree

CODES = (
    "beneath", "class", "deep", "full", "kind", "link", "many", "naming", "range", "ring", "single", "taken",
    "unknown", "used", "word",
)
MOST_MEMBERS = 100
# As MAX_DEEDS of bailiwick.tree.units, which rests on this file.
MOST_DEEDS = 20


def _is_row(value):
    """Whether the value is a tuple with not too many members."""
    return isinstance(value, tuple) and len(value) <= MOST_MEMBERS


def _are_names(value):
    """Whether the value is a tuple of words, not too many."""
    return _is_row(value) and are_words(value)


def _is_put_or_drop(value):
    """Whether the value is a part that puts or drops a text, its first word left aside."""
    return is_pair(value[1:])


def _is_clear(value):
    """Whether the value is a part that clears a type, its first word left aside."""
    return len(value) == 2 and is_word(value[1])


def _is_set(value):
    """Whether the value is a part that sets the texts of a type, its first word left aside."""
    return len(value) == 3 and is_word(value[1]) and _is_row(value[2]) and all([is_text(each) for each in value[2]])


def _is_raise(value):
    """Whether the value is a part that raises a type, its first word left aside."""
    return len(value) == 3 and is_word(value[1]) and is_whole(value[2])


def _is_extras(value):
    """Whether the value is a part that tells extras, its first word left aside."""
    return len(value) == 2 and _are_names(value[1])


PARTS = {
    "put": _is_put_or_drop,
    "drop": _is_put_or_drop,
    "clear": _is_clear,
    "set": _is_set,
    "raise": _is_raise,
    "extras": _is_extras,
}


def _is_part(value):
    """Whether the value is a part of a change."""
    word = first_word(value)
    if word not in PARTS:
        return False
    action = PARTS[word]
    return action(value)


def _is_add(value):
    """Whether the value is an add, its first word left aside."""
    if len(value) != 6 or not is_number(value[1]) or not is_place(value[2]) or not is_pair(value[3]):
        return False
    if not _are_names(value[4]) or value[4] == ():
        return False
    return _is_row(value[5]) and all([is_pair(each) for each in value[5]])


def _is_change(value):
    """Whether the value is a change, its first word left aside."""
    if len(value) != 3 or not is_number(value[1]) or not _is_row(value[2]):
        return False
    return all([_is_part(each) for each in value[2]])


def _is_move(value):
    """Whether the value is a move, its first word left aside."""
    if len(value) != 5 or not is_number(value[1]) or not is_place(value[2]):
        return False
    return is_pair(value[3]) and isinstance(value[4], bool)


def _is_remove(value):
    """Whether the value is a removal, its first word left aside."""
    return len(value) == 2 and is_number(value[1])


DEEDS = {"add": _is_add, "change": _is_change, "move": _is_move, "remove": _is_remove}


def is_deed(value):
    """Whether the value is a deed, in shape, words and texts."""
    word = first_word(value)
    if word not in DEEDS:
        return False
    action = DEEDS[word]
    return action(value)


def is_unit(value):
    """Whether the value is a unit, in shape, words and texts."""
    if not isinstance(value, tuple) or not 1 <= len(value) <= MOST_DEEDS:
        return False
    return all([is_deed(each) for each in value])


def _need_deed(deed):
    """Refuses what is no deed."""
    if not is_deed(deed):
        raise InvalidDeed(deed)


def _outcome(schema, tree, deed):
    """The pair of the tree behind a deed and None, or of None and the code; loose links are asked, too."""
    behind, code = tried(schema, tree, deed)
    # Only added and changed entries can have got a loose link, and it is asked last.
    if code is None and deed[1] in behind and loose_of(schema, behind, deed[1]) != []:
        return None, "link"
    return behind, code


def _need_done(schema, tree, deed):
    """Refuses a deed that falls."""
    _, code = _outcome(schema, tree, deed)
    if code is not None:
        raise Refused(code)


def do_deed(schema, tree, deed):
    """Does a deed: tells the tree behind it, or the code with which it falls."""
    need_tree(schema, tree)
    _need_deed(deed)
    behind, code = _outcome(schema, tree, deed)
    return ("done", behind) if code is None else ("fallen", code)


def touched(schema, tree, deed):
    """The numbers of the entries whose rules a deed that is done can break, ascending."""
    need_tree(schema, tree)
    _need_deed(deed)
    _need_done(schema, tree, deed)
    return tuple(known_touched(schema, tree, deed))


def move_back(schema, tree, deed):
    """The move that undoes a move which is done on the tree."""
    need_tree(schema, tree)
    if not is_deed(deed) or deed[0] != "move":
        raise InvalidDeed(deed)
    _need_done(schema, tree, deed)
    above, elder, classes, values = tree[deed[1]]
    behind, _ = tried(schema, tree, deed)
    naming = behind[deed[1]][1]
    was_there = naming in [(word, form) for word, form, text in values]
    return ("move", deed[1], above, (elder[0], naming_text(tree[deed[1]])), was_there)
