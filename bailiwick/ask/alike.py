"""Normal forms of filters, and filters that are alike."""

from bailiwick.ask.filters import MAX_PARTS, VALUES, is_filter, is_item, known_items, need_filter, value_from
from bailiwick.errors import InvalidOperation, TooMany

MAX_ITEMS = 6
OTHER = {"and": "or", "or": "and"}


def _pushed(asked, is_turned):
    """A filter, or its opposite, in which not stands ahead of items alone."""
    word = asked[0]
    if word == "not":
        return _pushed(asked[1], not is_turned)
    if word in OTHER:
        return (OTHER[word] if is_turned else word, tuple([_pushed(each, is_turned) for each in asked[1]]))
    return ("not", asked) if is_turned else asked


def _opened(word, members):
    """The members, each one with the same word replaced by its own members, and of equal ones the first."""
    found = []
    for member in members:
        rows = member[1] if member[0] == word else (member,)
        for row in rows:
            if row not in found:
                found.append(row)
    return found


def _is_needless(member, members, inner):
    """Whether a member is left out, as another one tells more; members with the inner word tell least."""
    if member[0] != inner:
        return False
    for other in members:
        rows = other[1] if other[0] == inner else (other,)
        if other != member and all([row in member[1] for row in rows]):
            return True
    return False


def _put_right(asked):
    """The normal form of a filter in which not stands ahead of items alone."""
    word = asked[0]
    if word not in OTHER:
        return asked
    inner = OTHER[word]
    members = _opened(word, [_put_right(each) for each in asked[1]])
    # An empty member with the other word decides the whole; an empty one with the same word is gone already.
    if (inner, ()) in members:
        return (inner, ())
    kept = [member for member in members if not _is_needless(member, members, inner)]
    return kept[0] if len(kept) == 1 else (word, tuple(sorted(kept)))


def _many_parts(asked):
    """How many parts a filter has."""
    if asked[0] == "not":
        return 1 + _many_parts(asked[1])
    if asked[0] in OTHER:
        return 1 + sum([_many_parts(each) for each in asked[1]])
    return 1


def _bounded(form):
    """A normal form, if it has not too many parts."""
    if _many_parts(form) > MAX_PARTS:
        raise TooMany(MAX_PARTS)
    return form


def normal(asked):
    """The normal form of a filter."""
    need_filter(asked)
    return _bounded(_put_right(_pushed(asked, False)))


def opposite(asked):
    """The normal form of the opposite of a filter."""
    need_filter(asked)
    return _bounded(_put_right(_pushed(asked, True)))


def is_normal(value):
    """Whether the value is a filter that is equal to its normal form."""
    return is_filter(value) and _put_right(_pushed(value, False)) == value


def _need_values(asked, values):
    """Refuses what is no dict from the items of a filter, perhaps with further ones, to values."""
    if not isinstance(values, dict) or not all([is_item(key) and values[key] in VALUES for key in values]):
        raise InvalidOperation(values)
    if not all([item in values for item in known_items(asked)]):
        raise InvalidOperation(values)


def value_by(asked, values):
    """The value of a filter whose items have the values of a dict."""
    need_filter(asked)
    _need_values(asked, values)
    return value_from(asked, values)


def _items_of_both(one, other):
    """The different items of two filters, ascending, if they are not too many."""
    need_filter(one)
    need_filter(other)
    items = known_items(("and", (one, other)))
    if len(items) > MAX_ITEMS:
        raise TooMany(MAX_ITEMS)
    return items


def unlike_at(one, other):
    """The first dict from the items of both to values at which two filters have unlike values, or None."""
    items = _items_of_both(one, other)
    rows = [()]
    for _ in items:
        rows = [(*row, value) for row in rows for value in VALUES]
    for row in rows:
        values = dict(zip(items, row))
        if value_from(one, values) != value_from(other, values):
            return values
    return None


def are_alike(one, other):
    """Whether two filters have the same value whatever values their items have."""
    return unlike_at(one, other) is None
