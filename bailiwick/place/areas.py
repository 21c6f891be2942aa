"""Areas: where shares and rules govern."""

from bailiwick.base.words import is_word
from bailiwick.errors import UnknownNumber
from bailiwick.tree.trees import is_of_class, need_number, need_place, need_tree, own_forms, upward_numbers


def _is_governing(schema, tree, number):
    """Whether an entry is a share or a rule."""
    return is_of_class(schema, tree[number], "share") or is_of_class(schema, tree[number], "rule")


def _need_area(schema, tree, area):
    """Refuses what is no number of a share or rule."""
    need_number(tree, area)
    if not _is_governing(schema, tree, area):
        raise UnknownNumber(area)


def _way_to(tree, number, ground):
    """The numbers on the way from an entry, or the root, up to a ground, which is left out; None if it is not there."""
    way = upward_numbers(tree, number)
    if ground == 0:
        return way
    return way[:way.index(ground)] if ground in way else None


def _is_let(schema, tree, number, names):
    """Whether one of an entry's own classes is, or stands beneath, a class that one of some texts names."""
    if number == 0:
        return False
    return any([is_word(name) and is_of_class(schema, tree[number], name) for name in names])


def known_in_area(schema, tree, number, area):
    """Whether an entry, or the root, lies in the area of what is known to be a share or rule."""
    ruling = tree[area]
    way = _way_to(tree, number, ruling[0])
    if way is None:
        return False
    if any([len(way) < int(form) for form in own_forms(ruling, "least")]):
        return False
    if any([len(way) > int(form) for form in own_forms(ruling, "most")]):
        return False
    if any([int(form) in way for form in own_forms(ruling, "without")]):
        return False
    names = own_forms(ruling, "of")
    return names == [] or _is_let(schema, tree, number, names)


def in_area(schema, tree, number, area):
    """Whether an entry, or the root, lies in the area of a share or rule."""
    need_tree(schema, tree)
    need_place(tree, number)
    _need_area(schema, tree, area)
    return known_in_area(schema, tree, number, area)


def area_of(schema, tree, area):
    """The numbers of all that lies in the area of a share or rule, 0 for the root, ascending."""
    need_tree(schema, tree)
    _need_area(schema, tree, area)
    return tuple([number for number in [0, *sorted(tree)] if known_in_area(schema, tree, number, area)])


def areas_over(schema, tree, number):
    """The numbers of the shares and rules in whose areas an entry, or the root, lies, ascending."""
    need_tree(schema, tree)
    need_place(tree, number)
    areas = [each for each in sorted(tree) if _is_governing(schema, tree, each)]
    return tuple([area for area in areas if known_in_area(schema, tree, number, area)])
