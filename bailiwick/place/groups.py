"""Groups and their members."""

from bailiwick.ask.filters import known_value, read_filter
from bailiwick.base.words import is_number
from bailiwick.errors import InvalidFilter, ParseError, UnknownNumber
from bailiwick.tree.trees import is_of_class, need_number, need_tree, own_forms, upward_numbers


def is_group(schema, tree, number):
    """Whether an entry is a group."""
    return is_of_class(schema, tree[number], "group")


def _need_group(schema, tree, group):
    """Refuses what is no number of a group."""
    need_number(tree, group)
    if not is_group(schema, tree, group):
        raise UnknownNumber(group)


def _filter_of(text):
    """The filter with a text, or None."""
    try:
        return read_filter(text)
    except (ParseError, InvalidFilter):
        return None


def _known_chosen(schema, tree, group):
    """The numbers of the entries that the filters of a known group make members, ascending."""
    asked = [_filter_of(form) for form in own_forms(tree[group], "chosen")]
    asked = [each for each in asked if each is not None]
    grounds = [int(form) for form in own_forms(tree[group], "ground")]
    found = []
    for number in sorted(tree):
        way = upward_numbers(tree, number)
        is_there = grounds == [] or any([ground in way for ground in grounds])
        if not is_there or is_group(schema, tree, number):
            continue
        if any([known_value(schema, tree, each, number) == "true" for each in asked]):
            found.append(number)
    return found


def _linked(tree, group):
    """The numbers of the entries to which links of a group's type member lead."""
    return [int(form) for form in own_forms(tree[group], "member")]


def _own_members(schema, tree, group):
    """The numbers of the members that a known group has by itself, not by other groups."""
    linked = [number for number in _linked(tree, group) if not is_group(schema, tree, number)]
    return linked + _known_chosen(schema, tree, group)


def _known_inner(schema, tree, group):
    """The numbers of the groups to which links lead from a known group, or from one of these, ascending."""
    found = {}
    ahead = [group]
    while ahead != []:
        linked = _linked(tree, ahead.pop())
        for number in linked:
            if is_group(schema, tree, number) and number not in found:
                found[number] = True
                ahead.append(number)
    return sorted(found)


def known_members(schema, tree, group):
    """The numbers of the members of a known group, ascending."""
    groups = [group, *_known_inner(schema, tree, group)]
    return sorted({number for each in groups for number in _own_members(schema, tree, each)})


def _leads_to(schema, tree, group, groups):
    """Whether a known group is one of some groups, or links lead from it to one of them, and so on."""
    return group in groups or any([each in groups for each in _known_inner(schema, tree, group)])


def members(schema, tree, group):
    """The numbers of the members of a group, ascending."""
    need_tree(schema, tree)
    _need_group(schema, tree, group)
    return tuple(known_members(schema, tree, group))


def does_have(schema, tree, group, value):
    """Whether the value is the number of a member of a group."""
    need_tree(schema, tree)
    _need_group(schema, tree, group)
    return is_number(value) and value in known_members(schema, tree, group)


def chosen(schema, tree, group):
    """The numbers of the entries that a group's own filters make members, ascending."""
    need_tree(schema, tree)
    _need_group(schema, tree, group)
    return tuple(_known_chosen(schema, tree, group))


def groups_of(schema, tree, number):
    """The numbers of the groups of which an entry is a member, ascending."""
    need_tree(schema, tree)
    need_number(tree, number)
    groups = [each for each in sorted(tree) if is_group(schema, tree, each)]
    having = [group for group in groups if number in _own_members(schema, tree, group)]
    return tuple([group for group in groups if _leads_to(schema, tree, group, having)])


def inner(schema, tree, group):
    """The numbers of the groups to which links lead from a group, or from one of these, and so on, ascending."""
    need_tree(schema, tree)
    _need_group(schema, tree, group)
    return tuple(_known_inner(schema, tree, group))
