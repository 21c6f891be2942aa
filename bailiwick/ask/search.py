"""Searching: which entries are reached from a base, and found by a filter."""

from bailiwick.ask.filters import is_filter, known_value
from bailiwick.base.words import are_ascending_words, is_place, is_whole
from bailiwick.errors import InvalidFilter, InvalidNumber, InvalidOperation
from bailiwick.tree.trees import beneath_numbers, is_of_class, known_name, need_number, need_tree, own_forms

SCOPES = ("base", "beneath", "one", "tree")
ALIASES = ("always", "base", "never", "scope")
MOST_ROWS = 60


class Search:
    """What is searched for, without a tree."""

    def __init__(self, base, scope="tree", *, where=("and", ()), types=(), aliases="never", limit=None):
        if not is_place(base):
            raise InvalidNumber(base)
        if scope not in SCOPES:
            raise InvalidOperation(scope)
        if not is_filter(where):
            raise InvalidFilter(where)
        if not are_ascending_words(types):
            raise InvalidOperation(types)
        if aliases not in ALIASES:
            raise InvalidOperation(aliases)
        if limit is not None and not (is_whole(limit) and 1 <= limit <= MOST_ROWS):
            raise InvalidNumber(limit)
        self._base = base
        self._scope = scope
        self._where = where
        self._types = types
        self._aliases = aliases
        self._limit = limit

    @property
    def base(self):
        """The number of the entry from which it begins, or 0."""
        return self._base

    @property
    def scope(self):
        """Which entries from the base on it has."""
        return self._scope

    @property
    def where(self):
        """The filter that is true at the found entries."""
        return self._where

    @property
    def types(self):
        """The types whose values are told, none for all."""
        return self._types

    @property
    def aliases(self):
        """Where aliases lead on."""
        return self._aliases

    @property
    def limit(self):
        """How many entries are told at most, or None."""
        return self._limit

    def __eq__(self, other):
        return (isinstance(other, Search) and self._base == other._base and self._scope == other._scope
                and self._where == other._where and self._types == other._types
                and self._aliases == other._aliases and self._limit == other._limit)

    def at(self, base):
        """The same search with another base."""
        return Search(base, self._scope, where=self._where, types=self._types, aliases=self._aliases,
                      limit=self._limit)

    def without_limit(self):
        """The same search without a limit."""
        return Search(self._base, self._scope, where=self._where, types=self._types, aliases=self._aliases)


def _need_search(search):
    """Refuses what is no search."""
    if not isinstance(search, Search):
        raise InvalidOperation(search)


def need_endless(search):
    """Refuses what is no search without a limit."""
    if not isinstance(search, Search) or search.limit is not None:
        raise InvalidOperation(search)


def _is_alias(schema, tree, number):
    """Whether an entry is an alias."""
    return is_of_class(schema, tree[number], "alias")


def _known_end(schema, tree, number):
    """The number of the end of an alias, that of an entry that is none, or None."""
    met = []
    while _is_alias(schema, tree, number):
        met.append(number)
        leads = [int(form) for form in own_forms(tree[number], "to")]
        if leads == [] or leads[0] in met:
            return None
        number = leads[0]
    return number


def end_of(schema, tree, number):
    """The number of the end of an alias, that of an entry that is no alias, or None."""
    need_tree(schema, tree)
    need_number(tree, number)
    return _known_end(schema, tree, number)


def _start(schema, tree, search):
    """The pair of the word of a search, and the number of the base from which it begins."""
    base = search.base
    if base != 0 and base not in tree:
        return "absent", base
    if base != 0 and search.aliases in ("always", "base"):
        base = _known_end(schema, tree, base)
    return ("alias" if base is None else "found"), base


def _numbers_in(tree, scope, base):
    """The numbers of the entries in a scope, ascending."""
    own = [] if base == 0 else [base]
    if scope == "base":
        return own
    if scope == "one":
        return [number for number in sorted(tree) if tree[number][0] == base]
    below = beneath_numbers(tree, base)
    return below if scope == "beneath" else sorted(own + below)


def _led_on(schema, tree, numbers, is_deep):
    """The numbers of the entries of a scope, with the ends of aliases in their place, ascending.

    Where the scope is deep, all that stands beneath an end is reached, too, as far as aliases there lead.
    """
    found = {}
    met = {}
    ahead = list(numbers)
    while ahead != []:
        number = ahead.pop()
        if number in met:
            continue
        met[number] = True
        end = _known_end(schema, tree, number)
        if end is None:
            continue
        found[end] = True
        # What stands beneath an entry of the scope that is no alias is in the scope itself.
        if is_deep and end != number:
            ahead.extend(beneath_numbers(tree, end))
    return sorted(found)


def _known_reached(schema, tree, search):
    """The pair of the word of a search and the numbers of the reached entries, ascending."""
    word, base = _start(schema, tree, search)
    if word != "found":
        return word, []
    numbers = _numbers_in(tree, search.scope, base)
    if search.aliases in ("always", "scope"):
        numbers = _led_on(schema, tree, numbers, search.scope in ("beneath", "tree"))
    return word, numbers


def reached(schema, tree, search):
    """The numbers of the reached entries, ascending."""
    need_tree(schema, tree)
    _need_search(search)
    _, numbers = _known_reached(schema, tree, search)
    return tuple(numbers)


def known_found(schema, tree, search):
    """The pair of the word of a search and the numbers of all found entries, ascending; limits left aside."""
    word, numbers = _known_reached(schema, tree, search)
    return word, [number for number in numbers if known_value(schema, tree, search.where, number) == "true"]


def known_row(schema, tree, number, types):
    """The row of an entry of what is known to be a tree, with the values of known types."""
    above, naming, classes, values = tree[number]
    if types != ():
        words = [each for word in types for each in schema.reach(word)]
        values = tuple([value for value in values if value[0] in words])
    return (number, known_name(tree, number), classes, values)


def known_rows(schema, tree, search, numbers):
    """The rows of some entries, as a search tells them."""
    return tuple([known_row(schema, tree, number, search.types) for number in numbers])


def row_of(schema, tree, number, types):
    """The row of an entry."""
    need_tree(schema, tree)
    need_number(tree, number)
    if not are_ascending_words(types):
        raise InvalidOperation(types)
    return known_row(schema, tree, number, types)


def find(schema, tree, search):
    """The word of a search, the rows of the found entries, and whether the limit left some out."""
    need_tree(schema, tree)
    _need_search(search)
    word, numbers = known_found(schema, tree, search)
    # Without a limit this leaves none out.
    told = numbers[:search.limit]
    return word, known_rows(schema, tree, search, told), len(told) < len(numbers)
