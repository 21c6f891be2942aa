"""Groups and their members."""

from bailiwick.ask.filters import known_value, read_filter
from bailiwick.base.words import is_number
from bailiwick.errors import InvalidFilter, ParseError, UnknownNumber
from bailiwick.tree.trees import is_of_class, need_number, need_tree, own_forms, upward_numbers


def is_group(schema, tree, number):
    """Whether an entry is a group."""
    return is_of_class(schema, tree[number], "group")


def _need_group(schema, tree, group):
    """Refuses what is no number of a group."""
    need_number(tree, group)
    if not is_group(schema, tree, group):
        raise UnknownNumber(group)


def _filter_of(text):
    """The filter with a text, or None."""
    try:
        return read_filter(text)
    except (ParseError, InvalidFilter):
        return None


def _asked_by(tree, group):
    """The filters of a known group."""
    asked = [_filter_of(form) for form in own_forms(tree[group], "chosen")]
    return [each for each in asked if each is not None]


def _is_chosen(schema, tree, group, asked, number):
    """Whether the filters of a known group make an entry a member."""
    grounds = [int(form) for form in own_forms(tree[group], "ground")]
    way = upward_numbers(tree, number)
    if is_group(schema, tree, number) or (grounds != [] and not any([ground in way for ground in grounds])):
        return False
    return any([known_value(schema, tree, each, number) == "true" for each in asked])


def _known_chosen(schema, tree, group):
    """The numbers of the entries that the filters of a known group make members, ascending."""
    asked = _asked_by(tree, group)
    return [number for number in sorted(tree) if _is_chosen(schema, tree, group, asked, number)]


def _linked(tree, group):
    """The numbers of the entries to which links of a group's type member lead."""
    return [int(form) for form in own_forms(tree[group], "member")]


def _own_members(schema, tree, group):
    """The numbers of the members that a known group has by itself, not by other groups."""
    linked = [number for number in _linked(tree, group) if not is_group(schema, tree, number)]
    return linked + _known_chosen(schema, tree, group)


def _known_inner(schema, tree, group):
    """The numbers of the groups to which links lead from a known group, or from one of these, ascending."""
    found = {}
    ahead = [group]
    while ahead != []:
        linked = _linked(tree, ahead.pop())
        for number in linked:
            if is_group(schema, tree, number) and number not in found:
                found[number] = True
                ahead.append(number)
    return sorted(found)


def known_members(schema, tree, group):
    """The numbers of the members of a known group, ascending."""
    groups = [group, *_known_inner(schema, tree, group)]
    return sorted({number for each in groups for number in _own_members(schema, tree, each)})


def _does_name(schema, tree, group, number):
    """Whether a known group names an entry, which is no group, as a member by itself, not by other groups."""
    return number in _linked(tree, group) or _is_chosen(schema, tree, group, _asked_by(tree, group), number)


def known_groups_of(schema, tree, number):
    """The numbers of the groups of which an entry is a member, ascending."""
    if is_group(schema, tree, number):
        return []
    groups = [each for each in sorted(tree) if is_group(schema, tree, each)]
    found = {group: True for group in groups if _does_name(schema, tree, group, number)}
    ahead = list(found)
    while ahead != []:
        lower = ahead.pop()
        for group in groups:
            if group not in found and lower in _linked(tree, group):
                found[group] = True
                ahead.append(group)
    return sorted(found)


def members(schema, tree, group):
    """The numbers of the members of a group, ascending."""
    need_tree(schema, tree)
    _need_group(schema, tree, group)
    return tuple(known_members(schema, tree, group))


def does_have(schema, tree, group, value):
    """Whether the value is the number of a member of a group."""
    need_tree(schema, tree)
    _need_group(schema, tree, group)
    return is_number(value) and value in known_members(schema, tree, group)


def chosen(schema, tree, group):
    """The numbers of the entries that a group's own filters make members, ascending."""
    need_tree(schema, tree)
    _need_group(schema, tree, group)
    return tuple(_known_chosen(schema, tree, group))


def groups_of(schema, tree, number):
    """The numbers of the groups of which an entry is a member, ascending."""
    need_tree(schema, tree)
    need_number(tree, number)
    return tuple(known_groups_of(schema, tree, number))


def inner(schema, tree, group):
    """The numbers of the groups to which links lead from a group, or from one of these, and so on, ascending."""
    need_tree(schema, tree)
    _need_group(schema, tree, group)
    return tuple(_known_inner(schema, tree, group))
