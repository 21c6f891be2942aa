"""Shared values: what entries get from the shares in whose areas they lie."""

from bailiwick.base.words import is_word
from bailiwick.place.areas import known_in_area
from bailiwick.rules.types import HOUSE
from bailiwick.tree.trees import MAX_VALUES, is_of_class, need_number, need_tree, own_forms


def _let_types(schema, entry):
    """The types of which an entry can get values."""
    house = [name for name, kind, single in HOUSE]
    barred = [each for name in own_forms(entry, "unshared") if is_word(name) for each in schema.reach(name)]
    borne = schema.must_bear(entry[2]) + schema.may_bear(entry[2])
    return [word for word in borne if word not in house and word not in barred]


def _known_gifts(schema, tree, number):
    """What an entry gets: a dict from pairs (type, form) to pairs (number of the share, text)."""
    entry = tree[number]
    let = _let_types(schema, entry)
    own = [(word, form) for word, form, text in entry[3]]
    gifts = {}
    for share in sorted(tree):
        if not is_of_class(schema, tree[share], "share") or not known_in_area(schema, tree, number, share):
            continue
        for word, form, text in tree[share][3]:
            is_new = (word, form) not in own and (word, form) not in gifts
            if word in let and is_new and len(own) + len(gifts) < MAX_VALUES:
                gifts[(word, form)] = (share, text)
    return gifts


def _known_shared(schema, tree, number):
    """The values that an entry gets, ascending."""
    gifts = _known_gifts(schema, tree, number)
    return sorted([(word, form, gifts[(word, form)][1]) for word, form in gifts])


def shared(schema, tree, number):
    """The values that an entry gets, ascending."""
    need_tree(schema, tree)
    need_number(tree, number)
    return tuple(_known_shared(schema, tree, number))


def givers(schema, tree, number):
    """By the pairs (type, form) of the values that an entry gets, the numbers of the shares whose texts it gets."""
    need_tree(schema, tree)
    need_number(tree, number)
    gifts = _known_gifts(schema, tree, number)
    return {key: gifts[key][0] for key in sorted(gifts)}


def known_shown(schema, tree):
    """What is known to be a tree, with the values that its entries get."""
    whole = {}
    for number in sorted(tree):
        above, naming, classes, values = tree[number]
        whole[number] = (above, naming, classes, tuple(sorted([*values, *_known_shared(schema, tree, number)])))
    return whole


def shown(schema, tree):
    """The tree in which each entry has, besides its own values, those that it gets."""
    need_tree(schema, tree)
    return known_shown(schema, tree)
