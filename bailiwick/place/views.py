"""Views: the tree that somebody sees, and units that somebody does."""

from bailiwick.base.words import are_numbers
from bailiwick.errors import InvalidDeed, InvalidOperation
from bailiwick.place.rights import Asker, need_who, present
from bailiwick.place.shares import known_shown
from bailiwick.tree.deeds import is_deed
from bailiwick.tree.trees import asked_form, names_row, need_number, need_tree, upward_numbers
from bailiwick.tree.units import Work, need_unit


def _does_see(asker, tree, number):
    """Whether somebody sees an entry of a known tree."""
    return all([asker.is_let("see", each, None) for each in upward_numbers(tree, number)])


def _seen_numbers(asker, tree):
    """The numbers of the entries that somebody sees, ascending."""
    let = {number: asker.is_let("see", number, None) for number in sorted(tree)}
    return [number for number in let if all([let[each] for each in upward_numbers(tree, number)])]


def _seen_entry(schema, asker, numbers, number, entry):
    """An entry of the shown tree as somebody sees it, who sees the entries with some numbers."""
    above, naming, classes, values = entry
    words = asker.granted_of("see", number, names_row([word for word, form, text in values]))
    kept = []
    for word, form, text in values:
        is_loose = schema.kind_of(word) == "link" and int(form) not in numbers
        if (word, form) == naming or (word in words and not is_loose):
            kept.append((word, form, text))
    return (above, naming, classes, tuple(kept))


def known_view(schema, tree, who):
    """The view that somebody has of a known tree."""
    whole = known_shown(schema, tree)
    if who == 0:
        return whole
    asker = Asker(schema, tree, who)
    numbers = _seen_numbers(asker, tree)
    return {number: _seen_entry(schema, asker, numbers, number, whole[number]) for number in numbers}


def is_seen(schema, tree, who, number):
    """Whether somebody sees an entry."""
    need_tree(schema, tree)
    need_who(tree, who)
    need_number(tree, number)
    return _does_see(Asker(schema, tree, who), tree, number)


def view(schema, tree, who):
    """The view of somebody: the tree that it sees."""
    need_tree(schema, tree)
    need_who(tree, who)
    return known_view(schema, tree, who)


def _writing(number, words):
    """The rights to write some types at an entry, or the root."""
    return [(right, number, word) for word in words for right in ("write", "see")]


def _extra_words(schema, tree, deed, extras):
    """The types that the classes which come or go by a part with extras must and may bear, ascending."""
    classes = tree[deed[1]][2] if deed[1] in tree else ()
    behind = [name for name in classes if schema.family_of(name) != "extra"] + list(extras)
    turned = tuple(sorted(set(classes) ^ set(behind)))
    return names_row(schema.must_bear(turned) + schema.may_bear(turned))


def _needed_of_add(schema, tree, deed):
    """The rights that an add needs."""
    return [("add", deed[2], None)] + _writing(deed[2], [word for word, text in deed[5]])


def _needed_of_change(schema, tree, deed):
    """The rights that a change needs."""
    found = []
    for part in deed[2]:
        words = _extra_words(schema, tree, deed, part[1]) if part[0] == "extras" else (part[1],)
        found.extend(_writing(deed[1], words))
    return found


def _needed_of_move(schema, tree, deed):
    """The rights that a move needs."""
    _, number, above, pair, keep = deed
    words = [pair[0]]
    if not keep and number in tree:
        words.append(tree[number][1][0])
    return [("move", number, None), ("add", above, None)] + _writing(number, words)


def _needed_of_remove(schema, tree, deed):
    """The rights that a removal needs."""
    return [("remove", deed[1], None)]


NEEDED = {
    "add": _needed_of_add,
    "change": _needed_of_change,
    "move": _needed_of_move,
    "remove": _needed_of_remove,
}


def _known_needed(schema, tree, deed):
    """The rights that a known deed needs, each once, in their order."""
    action = NEEDED[deed[0]]
    return tuple({row: True for row in action(schema, tree, deed)})


def needed(schema, tree, deed):
    """The rights that a deed needs: triples (right, number, type or None), in their order."""
    need_tree(schema, tree)
    if not is_deed(deed):
        raise InvalidDeed(deed)
    return _known_needed(schema, tree, deed)


def _put_pairs(deed):
    """The pairs (type, text) that a deed adds, puts or sets; the naming of a move is left aside."""
    if deed[0] == "add":
        return list(deed[5])
    if deed[0] != "change":
        return []
    found = []
    for part in deed[2]:
        if part[0] == "put":
            found.append(part[1:])
        elif part[0] == "set":
            found.extend([(part[1], text) for text in part[2]])
    return found


def _linked_numbers(schema, deed):
    """The numbers to which a deed puts links, as far as their texts fit."""
    pairs = [(word, text) for word, text in _put_pairs(deed) if schema.kind_of(word) == "link"]
    numbers = [int(text) for word, text in pairs if asked_form(schema, word, text) is not None]
    # The own number is looked at ahead of links, but for an add, where it can have no entry yet.
    return [number for number in numbers if number != deed[1]]


def _named_numbers(schema, deed):
    """The numbers that a deed names, in the order in which they are looked at."""
    own = [] if deed[0] == "add" else [deed[1]]
    above = [deed[2]] if deed[0] in ("add", "move") and deed[2] != 0 else []
    return own + above + _linked_numbers(schema, deed)


def _bar(schema, tree, who, deed):
    """The pair of the code and the number that keep somebody from a deed, or None."""
    if who == 0:
        return None
    asker = Asker(schema, tree, present(tree, who))
    for number in _named_numbers(schema, deed):
        if number not in tree or not _does_see(asker, tree, number):
            return "absent", number
    for right, number, word in _known_needed(schema, tree, deed):
        if not asker.is_let(right, number, word):
            return "denied", number
    return None


def _told_number(schema, tree, who, number):
    """The number of an entry of a tree, or 0 if somebody does not see it."""
    asker = Asker(schema, tree, present(tree, who))
    return number if _does_see(asker, tree, number) else 0


def known_done_by(schema, tree, who, unit, used):
    """What is told of a known unit of somebody."""
    work = Work(schema, tree, used)
    for at, deed in enumerate(unit):
        bar = _bar(schema, work.now(), who, deed)
        if bar is not None:
            return ("fallen", at, bar[0], bar[1])
        code = work.step(deed)
        if code is not None:
            return ("fallen", at, code, deed[1])
    fault = work.fault()
    if fault is None:
        return ("done", work.now())
    return ("fallen", len(unit), fault[0], _told_number(schema, work.now(), who, fault[1]))


def done_by(schema, tree, who, unit, *, used=()):
    """Does a unit of somebody: tells the tree behind it, or how it falls."""
    need_tree(schema, tree)
    need_who(tree, who)
    need_unit(unit)
    if not are_numbers(used):
        raise InvalidOperation(used)
    return known_done_by(schema, tree, who, unit, used)
