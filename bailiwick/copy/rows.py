"""Rows of differences: what a tree was told, and how another place catches up with it."""

from bailiwick.base.words import is_number, is_place, is_whole, is_word, need_word
from bailiwick.errors import InvalidNumber, InvalidOperation, InvalidTree, TooMany
from bailiwick.tree.trees import MAX_ENTRIES, are_plain_entries, is_plain_entry

MAX_ROW = 1000


def _need_entries(entries):
    """Refuses what is no dict from numbers to entries, or has too many."""
    if not are_plain_entries(entries):
        raise InvalidTree(entries)


def _by_number(entries):
    """A copy of a dict in which the numbers ascend."""
    return {number: entries[number] for number in sorted(entries)}


def _known_difference(one, other):
    """The difference of two dicts of entries."""
    numbers = [number for number in sorted(set(one) | set(other)) if one.get(number) != other.get(number)]
    return {number: other.get(number) for number in numbers}


def difference(one, other):
    """The difference of two trees: the entries of the second one where they are unlike, None where it has none."""
    _need_entries(one)
    _need_entries(other)
    return _known_difference(one, other)


def are_changes(value):
    """Whether the value is a dict from numbers to entries and None."""
    if not isinstance(value, dict) or not all([is_number(number) for number in value]):
        return False
    return all([value[number] is None or is_plain_entry(value[number]) for number in value])


def behind_changes(entries, changes):
    """The entries behind some changes; None if these cannot be applied."""
    # What is dropped must be there, and what is put must be another entry.
    if any([entries.get(number) == changes[number] for number in changes]):
        return None
    whole = {**entries, **changes}
    behind = {number: whole[number] for number in sorted(whole) if whole[number] is not None}
    return behind if len(behind) <= MAX_ENTRIES else None


def applied(entries, changes):
    """The entries behind some changes."""
    _need_entries(entries)
    behind = behind_changes(entries, changes) if are_changes(changes) else None
    if behind is None:
        raise InvalidOperation(changes)
    return behind


def is_cookie(value):
    """Whether the value is a pair of an identity and a place."""
    return isinstance(value, tuple) and len(value) == 2 and is_word(value[0]) and is_place(value[1])


class Row:
    """Trees that were told one after another: the last one, and the differences from the first place on.

    `_lasts` has the last changes by numbers; an entry without one has been there since place 0.
    """

    def __init__(self, identity, entries=None):
        need_word(identity)
        told = {} if entries is None else entries
        _need_entries(told)
        self._identity = identity
        self._entries = _by_number(told)
        self._place = 0
        self._first = 0
        self._steps = []
        self._lasts = {}

    @property
    def identity(self):
        """The word by which its cookies are known."""
        return self._identity

    @property
    def place(self):
        """How many differences it has made."""
        return self._place

    @property
    def first(self):
        """The place from which on it knows the differences."""
        return self._first

    @property
    def cookie(self):
        """The cookie of what is told now."""
        return (self._identity, self._place)

    def entries(self):
        """The last tree."""
        return dict(self._entries)

    def tell(self, entries):
        """Tells a tree, and returns the place behind it."""
        _need_entries(entries)
        changes = _known_difference(self._entries, entries)
        if changes == {}:
            return self._place
        if self._place == MAX_ROW:
            raise TooMany(MAX_ROW)
        self._place += 1
        self._steps.append(changes)
        self._entries = _by_number(entries)
        for number in changes:
            self._lasts[number] = self._place
        return self._place

    def cut(self, place):
        """Forgets the differences ahead of a place."""
        if not is_whole(place) or not self._first <= place <= self._place:
            raise InvalidNumber(place)
        del self._steps[:place - self._first]
        self._first = place

    def messages(self, cookie):
        """The messages by which what has a cookie catches up."""
        if cookie is not None and not is_cookie(cookie):
            raise InvalidOperation(cookie)
        # Without a cookie of this row nothing is known to be there already.
        known = -1
        if cookie is not None and cookie[0] == self._identity and cookie[1] <= self._place:
            known = cookie[1]
        found = self._all_entries(known) if known < self._first else self._steps_from(known)
        return (*found, ("done", self.cookie))

    def _steps_from(self, place):
        """The messages that tell the differences behind a place."""
        steps = [("step", dict(changes)) for changes in self._steps[place - self._first:]]
        return [("changes", self._identity, place), *steps]

    def _all_entries(self, known):
        """The messages that tell all entries; those that are known from a place are told by their numbers alone."""
        found = [("all", self._identity)]
        for number in self._entries:
            if self._lasts.get(number, 0) <= known:
                found.append(("there", number))
            else:
                found.append(("put", number, self._entries[number]))
        return found
