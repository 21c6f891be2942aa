"""Rows of pages, sorted rows, and rows that are kept while the tree changes."""

from bailiwick.ask.search import known_found, known_rows, need_endless
from bailiwick.base.kinds import ORDERED, order_key
from bailiwick.base.words import MOST_NUMBER, is_whole, is_word
from bailiwick.errors import InvalidNumber, InvalidOperation, InvalidTree
from bailiwick.tree.trees import is_known_tree, need_tree

MAX_COUNT = 60
MAX_KEYS = 3


def _need_count(count):
    """Refuses what is no count of rows."""
    if not is_whole(count) or not 1 <= count <= MAX_COUNT:
        raise InvalidNumber(count)


def page(schema, tree, search, count, cookie=0):
    """The word of a search, the rows of the page behind a cookie, and the cookie of the next page, or None."""
    need_tree(schema, tree)
    need_endless(search)
    _need_count(count)
    if not is_whole(cookie) or not 0 <= cookie <= MOST_NUMBER:
        raise InvalidNumber(cookie)
    word, numbers = known_found(schema, tree, search)
    left = [number for number in numbers if number > cookie]
    told = left[:count]
    return word, known_rows(schema, tree, search, told), told[-1] if len(told) < len(left) else None


def _is_key(value):
    """Whether the value is a pair of a type and a way."""
    return isinstance(value, tuple) and len(value) == 2 and is_word(value[0]) and value[1] in ("up", "down")


def _need_keys(keys):
    """Refuses what are no sort keys."""
    if not isinstance(keys, tuple) or not 1 <= len(keys) <= MAX_KEYS or not all([_is_key(key) for key in keys]):
        raise InvalidOperation(keys)


def _decisive(schema, entry, word, way):
    """What orders the value of an entry by which a key sorts it, or None."""
    kind = schema.kind_of(word)
    reach = schema.reach(word)
    found = [order_key(kind, form) for each, form, text in entry[3] if each in reach]
    if found == []:
        return None
    return min(found) if way == "up" else max(found)


def _ranks(schema, tree, numbers, key):
    """Where each of the entries stands by a key, as an integer; those without a value stand last."""
    word, way = key
    marks = {number: _decisive(schema, tree[number], word, way) for number in numbers}
    row = sorted({marks[number] for number in numbers if marks[number] is not None})
    places = {mark: at if way == "up" else len(row) - at for at, mark in enumerate(row)}
    return {number: places.get(marks[number], len(row) + 1) for number in numbers}


def _known_sorted(schema, tree, search, keys):
    """The pair of the word of a search by sort keys, and the numbers of the found entries, sorted."""
    if any([schema.kind_of(word) not in ORDERED for word, way in keys]):
        return "order", ()
    word, numbers = known_found(schema, tree, search)
    ranks = [_ranks(schema, tree, numbers, key) for key in keys]
    rows = sorted([(tuple([each[number] for each in ranks]), number) for number in numbers])
    return word, tuple([number for places, number in rows])


def sorted_numbers(schema, tree, search, keys):
    """The word of a search by sort keys, and the numbers of the found entries, sorted."""
    need_tree(schema, tree)
    need_endless(search)
    _need_keys(keys)
    return _known_sorted(schema, tree, search, keys)


class Kept:
    """A sorted row of a tree, told piece by piece while the tree changes."""

    def __init__(self, schema, tree, search, keys):
        need_tree(schema, tree)
        need_endless(search)
        _need_keys(keys)
        self._schema = schema
        self._search = search
        self._word, self._left = _known_sorted(schema, tree, search, keys)

    @property
    def word(self):
        """The word of the search by its sort keys at the first tree."""
        return self._word

    @property
    def left(self):
        """The numbers that were not taken off yet."""
        return self._left

    def next(self, tree, count):
        """Takes numbers off the row until so many are found in a tree, and returns the rows of these."""
        if not is_known_tree(self._schema, tree):
            raise InvalidTree(tree)
        _need_count(count)
        _, found = known_found(self._schema, tree, self._search)
        there = [number for number in self._left if number in found]
        told = there[:count]
        # What is passed over behind the last told number stays, if no more were wanted.
        behind = self._left.index(told[-1]) + 1 if len(told) == count else len(self._left)
        self._left = self._left[behind:]
        return known_rows(self._schema, tree, self._search, told)
