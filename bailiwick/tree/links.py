"""Links between entries, which are kept by numbers."""

from bailiwick.base.words import need_word
from bailiwick.errors import InvalidOperation, InvalidTree, Refused
from bailiwick.tree.trees import (
    are_known_entries, beneath_numbers, known_name, links_of, need_number, need_schema, need_tree,
)


def known_links_to(schema, tree, number):
    """The links (number, type) to an entry of what is known to be a tree, ascending."""
    return [(each, word) for each in sorted(tree) for word, to in links_of(schema, tree[each]) if to == number]


def links_to(schema, tree, number):
    """The links (number, type) to an entry, ascending."""
    need_tree(schema, tree)
    need_number(tree, number)
    return tuple(known_links_to(schema, tree, number))


def links_from(schema, tree, number):
    """The pairs (type, number) to which an entry has links, ascending."""
    need_tree(schema, tree)
    need_number(tree, number)
    return tuple(links_of(schema, tree[number]))


def link_names(schema, tree, number, word):
    """The names to which an entry has links of a type itself, by the numbers of these entries."""
    need_tree(schema, tree)
    need_number(tree, number)
    need_word(word)
    if schema.kind_of(word) != "link":
        raise InvalidOperation(word)
    return tuple([known_name(tree, to) for each, to in links_of(schema, tree[number]) if each == word])


def loose_of(schema, entries, number):
    """The pairs (type, number of no entry) of the links of an entry that are loose, ascending."""
    return [(word, to) for word, to in links_of(schema, entries[number]) if to not in entries]


def loose_links(schema, entries):
    """The triples (number, type, number of no entry) of all loose links, ascending."""
    need_schema(schema)
    if not are_known_entries(schema, entries):
        raise InvalidTree(entries)
    return tuple([(number, word, to) for number in sorted(entries) for word, to in loose_of(schema, entries, number)])


def _entry_without(schema, entry, number):
    """An entry without its links to a number."""
    above, naming, classes, values = entry
    kept = [(word, form, text) for word, form, text in values
            if schema.kind_of(word) != "link" or int(form) != number]
    return (above, naming, classes, tuple(kept))


def known_without_links(schema, tree, number):
    """What is known to be a tree, without all links to an entry."""
    return {each: _entry_without(schema, tree[each], number) for each in sorted(tree)}


def without_links(schema, tree, number):
    """The tree in which no entry has a link to this one."""
    need_tree(schema, tree)
    need_number(tree, number)
    return known_without_links(schema, tree, number)


def known_removed(schema, tree, number):
    """What is known to be a tree, without an entry beneath which there is none, and without all links to it."""
    kept = known_without_links(schema, tree, number)
    del kept[number]
    return kept


def removed(schema, tree, number):
    """The tree without an entry and without all links to it."""
    need_tree(schema, tree)
    need_number(tree, number)
    if beneath_numbers(tree, number) != []:
        raise Refused("beneath")
    return known_removed(schema, tree, number)
