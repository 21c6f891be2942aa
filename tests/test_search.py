"""Tests of bailiwick.ask.search."""

import random

from bailiwick.ask import search as module
from bailiwick.ask.filters import value_at
from bailiwick.ask.search import Search, end_of, find, reached, row_of
from bailiwick.errors import InvalidFilter, InvalidNumber, InvalidOperation, InvalidSchema, InvalidTree, UnknownNumber
from bailiwick.rules.schemas import Schema
from bailiwick.tree.trees import children, does_stand_beneath, name_of
from tests.makers import asking_schema, some_filters, some_tree
from tests.samples import Tests, entry, is_empty_dict, is_schema, never, sample_schema, sample_tree, wrong_values
from tests.test_filters import EVERYTHING, HAS, NOTHING, wrong_filters
from tests.test_links import is_one

SCOPES = ("base", "beneath", "one", "tree")
ALIASES = ("always", "base", "never", "scope")


def is_search(value):
    """Whether a wrong value is a search all the same."""
    return isinstance(value, Search)


def are_some_types(value):
    """Whether a wrong value is an ascending tuple of words all the same."""
    return value in ((), ("a",), ("a", "b"))


def is_some_place(value):
    """Whether a wrong value is a number or 0 all the same."""
    return isinstance(value, int) and not isinstance(value, bool) and 0 <= value <= 10 ** 12


def is_some_limit(value):
    """Whether a wrong value is a limit all the same."""
    return value is None or (is_some_place(value) and value == 1)


def alias(above, text, *tos):
    """An alias to some entries."""
    return entry(above, "label", text, ("alias",), *[("to", str(to)) for to in tos])


def group(above, text):
    """A group, which is no alias."""
    return entry(above, "label", text, ("group",))


def alias_tree():
    """Groups with aliases: in chains and rings, to themselves, without a value, and beneath one another.

    0: 1 (10 (11 12a>11) 13a>20 14a>13 15a>15 16a>17) 2 (20 (21a>1 22 (23)) 24a) 17a>16 30a>14
    """
    return {
        1: group(0, "a"), 10: group(1, "b"), 11: group(10, "c"), 12: alias(10, "d", 11), 13: alias(1, "e", 20),
        14: alias(1, "f", 13), 15: alias(1, "g", 15), 16: alias(1, "h", 17), 2: group(0, "i"), 20: group(2, "j"),
        21: alias(20, "k", 1), 22: group(20, "l"), 23: group(22, "m"), 24: alias(2, "n"), 17: alias(0, "o", 16),
        30: alias(0, "p", 14),
    }


def plain_end(schema, tree, number):
    """The end of an alias, told as the document tells it."""
    met = set()
    while any(schema.is_beneath(name, "alias") for name in tree[number][2]):
        tos = [int(form) for word, form, text in tree[number][3] if word == "to"]
        if number in met or not tos:
            return None
        met.add(number)
        number = tos[0]
    return number


def plain_reached(schema, tree, search):
    """The pair of the word and the numbers that a search reaches, told as the document tells it."""
    base = search.base
    if base != 0 and base not in tree:
        return "absent", ()
    if base != 0 and search.aliases in ("base", "always"):
        base = plain_end(schema, tree, base)
        if base is None:
            return "alias", ()
    below = {number for number in tree if does_stand_beneath(tree, number, base)}
    scope = {"base": {base} - {0}, "one": set(children(tree, base)), "beneath": below, "tree": below | ({base} - {0})}
    scope = scope[search.scope]
    if search.aliases in ("never", "base"):
        return "found", tuple(sorted(scope))
    # All that aliases lead to is in the scope, too, until nothing is new.
    wider, ends = set(), set()
    while wider != scope:
        wider = set(scope)
        for number in wider:
            end = plain_end(schema, tree, number)
            if end is not None:
                ends.add(end)
                if end != number and search.scope in ("beneath", "tree"):
                    scope = scope | {each for each in tree if does_stand_beneath(tree, each, end)}
    return "found", tuple(sorted(ends))


class SearchTests(Tests):
    """The class Search [0.2, 0.24, stage 14]."""

    def test_constants(self):
        self.assertEqual((module.SCOPES, module.ALIASES), (SCOPES, ALIASES))

    def test_properties(self):
        search = Search(3)
        told = (search.base, search.scope, search.where, search.types, search.aliases, search.limit)
        self.assertEqual(told, (3, "tree", EVERYTHING, (), "never", None))
        search = Search(10 ** 12, "one", where=HAS, types=("a", "b"), aliases="always", limit=60)
        told = (search.base, search.scope, search.where, search.types, search.aliases, search.limit)
        self.assertEqual(told, (10 ** 12, "one", HAS, ("a", "b"), "always", 60))

    def test_same_search(self):
        search = Search(3, "one", where=HAS, types=("a",), aliases="base", limit=2)
        self.assertEqual(search.at(0), Search(0, "one", where=HAS, types=("a",), aliases="base", limit=2))
        self.assertEqual(search.without_limit(), Search(3, "one", where=HAS, types=("a",), aliases="base"))
        self.assertEqual(search, Search(3, "one", where=HAS, types=("a",), aliases="base", limit=2))
        self.assertEqual(search.at(3), search)
        self.assertEqual(Search(3).without_limit(), Search(3))

    def test_equality(self):
        search = Search(3, "one", where=HAS, types=("a",), aliases="base", limit=2)
        more = {"where": HAS, "types": ("a",), "aliases": "base", "limit": 2}
        self.equals_itself_alone(search, Search(3, "one", **more), [
            Search(4, "one", **more), Search(3, "tree", **more), Search(3, "one", **{**more, "where": EVERYTHING}),
            Search(3, "one", **{**more, "types": ()}), Search(3, "one", **{**more, "aliases": "never"}),
            Search(3, "one", **{**more, "limit": None}), Search(3, "one", **{**more, "limit": 1}), Search(3), Schema((), ())])
        self.cannot_iterate(search)

    def test_wrong_arguments(self):
        right = [
            (0, InvalidNumber, is_some_place), (1, InvalidOperation, never), ("where", InvalidFilter, never),
            ("types", InvalidOperation, are_some_types), ("aliases", InvalidOperation, never),
            ("limit", InvalidNumber, is_some_limit)]
        self.refuses_each(Search, [0, "tree"], right, where=EVERYTHING, types=(), aliases="never", limit=None)
        for value in wrong_filters():
            self.refuses(InvalidFilter, Search, 0, where=value, types=None)
        for value in (-1, 10 ** 12 + 1, True, False, "0", None):
            self.assertIs(self.refuses(InvalidNumber, Search, value, "all").value, value)
            self.assertIs(self.refuses(InvalidNumber, Search(0).at, value).value, value)
        for value in (0, 61, -1, True, False, 10 ** 39, "1"):
            self.assertIs(self.refuses(InvalidNumber, Search, 0, limit=value).value, value)
        for value in (("b", "a"), ("a", "a"), ["a"], ("A",), ("",), (1,), "a", None, {"a": "b"}):
            self.refuses(InvalidOperation, Search, 0, types=value)
        for value in ("Tree", "all", "", None, ("tree",), ["tree"]):
            self.refuses(InvalidOperation, Search, 0, value)
            self.refuses(InvalidOperation, Search, 0, aliases=value)
        self.refuses_each(Search(0).at, [0], [(0, InvalidNumber, is_some_place)])
        for limit in (1, 60, None):
            self.assertEqual(Search(0, limit=limit).limit, limit)


class ScopeTests(Tests):
    """Scopes, rows and limits [14.1, 14.4]."""

    def setUp(self):
        self.schema = sample_schema()
        self.tree = sample_tree()

    def found(self, search, tree=None):
        """The word, the numbers of the rows, and whether there are more; tests what is told besides."""
        tree = self.tree if tree is None else tree
        word, rows, more = find(self.schema, tree, search)
        self.assertIsInstance(rows, tuple)
        for row in rows:
            self.assertEqual(row, row_of(self.schema, tree, row[0], search.types))
        return word, [row[0] for row in rows], more

    def test_scopes(self):
        told = {
            (0, "base"): [], (0, "one"): [1, 5], (0, "beneath"): [1, 2, 5, 10, 20, 30], (0, "tree"): [1, 2, 5, 10, 20, 30],
            (2, "base"): [2], (2, "one"): [10, 30], (2, "beneath"): [10, 20, 30], (2, "tree"): [2, 10, 20, 30],
            (20, "base"): [20], (20, "one"): [], (20, "beneath"): [], (20, "tree"): [20],
        }
        for (base, scope), numbers in told.items():
            for aliases in ALIASES:
                search = Search(base, scope, aliases=aliases)
                self.assertEqual(self.found(search), ("found", numbers, False))
                self.assertEqual(reached(self.schema, self.tree, search), tuple(numbers))
        for scope in SCOPES:
            for aliases in ALIASES:
                search = Search(77, scope, aliases=aliases)
                self.assertEqual(find(self.schema, self.tree, search), ("absent", (), False))
                self.assertEqual(reached(self.schema, self.tree, search), ())
                self.assertEqual(find(self.schema, {}, Search(0, scope, aliases=aliases)), ("found", (), False))

    def test_rows(self):
        two = (2, (("cn", "two"), ("cn", "one")), ("unit",), (("cn", "two", "two"), ("mark", "5", "5")))
        ten = (10, (("cn", "Ann"), ("cn", "two"), ("cn", "one")), ("human",), (("cn", "ann", "Ann"), ("mail", "A@x", "A@x")))
        self.assertEqual(find(self.schema, self.tree, Search(2, "base")), ("found", (two,), False))
        self.assertEqual(find(self.schema, self.tree, Search(2, where=("or", (("has", "mark"), ("has", "mail"))))),
                         ("found", (two, ten), False))
        self.assertEqual(row_of(self.schema, self.tree, 10, ()), ten)
        backward = {number: self.tree[number] for number in sorted(self.tree, reverse=True)}
        self.assertEqual(self.found(Search(0), backward), ("found", [1, 2, 5, 10, 20, 30], False))

    def test_types(self):
        told = {
            (): [("boss", "10"), ("cn", "bob b"), ("pal", "10"), ("pet", "rex")], ("cn",): [("cn", "bob b"), ("pet", "rex")],
            ("nick",): [("pet", "rex")], ("boss",): [("boss", "10"), ("pal", "10")], ("pal",): [("pal", "10")],
            ("none",): [], ("nick", "none", "pal"): [("pal", "10"), ("pet", "rex")], ("mail",): [], ("human", "label"): [],
            ("boss", "cn", "nick", "pet"): [("boss", "10"), ("cn", "bob b"), ("pal", "10"), ("pet", "rex")],
        }
        for types, values in told.items():
            row = row_of(self.schema, self.tree, 20, types)
            self.assertEqual([value[:2] for value in row[3]], values)
            self.assertIsInstance(row[3], tuple)
            self.assertEqual(row[:3], (20, (("cn", "Bob  B"), ("cn", "Ann"), ("cn", "two"), ("cn", "one")), ("human", "vip")))
            self.assertEqual(find(self.schema, self.tree, Search(20, types=types))[1], (row,))

    def test_filters(self):
        told = {
            EVERYTHING: [1, 2, 5, 10, 20, 30], NOTHING: [], ("has", "mail"): [10], ("not", ("has", "mail")): [20, 30],
            ("has", "none"): [], ("within", 10): [10, 20], ("class", "thing"): [1, 2, 5, 10, 20, 30],
        }
        for where, numbers in told.items():
            self.assertEqual(self.found(Search(0, where=where)), ("found", numbers, False))
            self.assertEqual(reached(self.schema, self.tree, Search(0, where=where)), (1, 2, 5, 10, 20, 30))
        self.assertEqual(self.found(Search(2, "one", where=("within", 10))), ("found", [10], False))

    def test_limits(self):
        everyone = [1, 2, 5, 10, 20, 30]
        for limit in range(1, 9):
            self.assertEqual(self.found(Search(0, limit=limit)), ("found", everyone[:limit], limit < 6))
            self.assertEqual(reached(self.schema, self.tree, Search(0, limit=limit)), tuple(everyone))
        human = ("class", "human")
        self.assertEqual(self.found(Search(0, where=human, limit=2)), ("found", [10, 20], True))
        self.assertEqual(self.found(Search(0, where=human, limit=3)), ("found", [10, 20, 30], False))
        self.assertEqual(self.found(Search(0, where=NOTHING, limit=1)), ("found", [], False))
        self.assertEqual(self.found(Search(77, limit=1)), ("absent", [], False))
        wide = {at: entry(0, "cn", f"n{at}", ("unit",)) for at in range(1, 61)}
        self.assertEqual(self.found(Search(0, limit=60), wide), ("found", list(range(1, 61)), False))
        self.assertEqual(self.found(Search(0, limit=59), wide), ("found", list(range(1, 60)), True))

    def test_wrong_arguments(self):
        right = [(0, InvalidSchema, is_schema), (1, InvalidTree, is_empty_dict)]
        for call in (find, reached):
            self.refuses_each(call, [self.schema, self.tree, Search(0)], [*right, (2, InvalidOperation, is_search)])
        self.refuses_each(end_of, [self.schema, self.tree, 1], [*right, (2, UnknownNumber, is_one)])
        self.refuses_each(row_of, [self.schema, self.tree, 1, ()], [
            *right, (2, UnknownNumber, is_one), (3, InvalidOperation, are_some_types)])
        for number in (0, 77, True):
            self.assertIs(self.refuses(UnknownNumber, end_of, self.schema, self.tree, number).asked, number)
            self.assertIs(self.refuses(UnknownNumber, row_of, self.schema, self.tree, number, None).asked, number)
        loose = {1: alias(0, "a", 2)}
        self.refuses(InvalidTree, find, self.schema, loose, None)
        self.refuses(InvalidTree, end_of, self.schema, loose, 1)


class AliasTests(Tests):
    """Aliases [14.2, 14.3]."""

    def setUp(self):
        self.schema = sample_schema()
        self.tree = alias_tree()

    def reaches(self, word, numbers, *args, tree=None, **more):
        """Tests what a search reaches and finds."""
        search = Search(*args, **more)
        tree = self.tree if tree is None else tree
        self.assertEqual(reached(self.schema, tree, search), tuple(numbers))
        found, rows, _ = find(self.schema, tree, search)
        self.assertEqual((found, [row[0] for row in rows]), (word, numbers))
        self.assertEqual(plain_reached(self.schema, tree, search), (word, tuple(numbers)))

    def test_ends(self):
        told = {1: 1, 10: 10, 11: 11, 12: 11, 13: 20, 14: 20, 15: None, 16: None, 17: None, 2: 2, 20: 20, 21: 1, 24: None, 30: 20}
        for number, end in told.items():
            self.assertEqual(end_of(self.schema, self.tree, number), end)
            self.assertEqual(plain_end(self.schema, self.tree, number), end)

    def test_several_values(self):
        # Of several values the first one counts, by the texts of numbers.
        tree = {1: group(0, "a"), 9: group(0, "b"), 10: group(0, "c"), 4: alias(0, "d", 9, 10), 5: alias(0, "e", 4, 5)}
        self.assertEqual(end_of(self.schema, tree, 4), 10)
        self.assertEqual(end_of(self.schema, tree, 5), 10)
        tree[6] = alias(0, "f", 6, 5)
        self.assertEqual(end_of(self.schema, tree, 6), 10)
        tree[3] = alias(0, "g", 3, 9)
        self.assertIsNone(end_of(self.schema, tree, 3))

    def test_classes_of_aliases(self):
        # A class makes an alias, not a value; one of several classes is enough.
        tree = {1: entry(0, "label", "a", ("group",), ("to", "2")), 2: entry(0, "label", "b", ("alias", "group"), ("to", "3")),
                3: entry(0, "label", "c", ("nowhere",), ("to", "1"))}
        self.assertEqual([end_of(self.schema, tree, number) for number in (1, 2, 3)], [1, 3, 3])
        # Links of other types lead nowhere.
        tree[4] = entry(0, "label", "d", ("alias",), ("boss", "1"))
        self.assertIsNone(end_of(self.schema, tree, 4))

    def test_a_base_that_is_an_alias(self):
        for aliases in ("base", "always"):
            self.reaches("found", [11], 12, "base", aliases=aliases)
            self.reaches("found", [20], 30, "base", aliases=aliases)
            self.reaches("found", [10], 10, "base", aliases=aliases)
            for number in (15, 16, 17, 24):
                for scope in SCOPES:
                    self.reaches("alias", [], number, scope, aliases=aliases)
            self.reaches("absent", [], 77, aliases=aliases)
        self.reaches("found", [21, 22], 13, "one", aliases="base")
        self.reaches("found", [20, 21, 22, 23], 14, "tree", aliases="base")
        self.reaches("found", [21, 22, 23], 30, "beneath", aliases="base")
        self.reaches("found", [1, 22], 13, "one", aliases="always")
        for aliases in ("never", "scope"):
            self.reaches("found", [], 13, "one", aliases=aliases)
            self.reaches("found", [], 15, "beneath", aliases=aliases)
        self.reaches("found", [13], 13, "tree", aliases="never")
        self.reaches("found", [15], 15, "base", aliases="never")

    def test_aliases_in_the_scope(self):
        self.reaches("found", [20], 13, "base", aliases="scope")
        self.reaches("found", [], 15, "base", aliases="scope")
        self.reaches("found", [], 24, "tree", aliases="scope")
        # Directly beneath, just the ends.
        self.reaches("found", [10, 20], 1, "one", aliases="scope")
        self.reaches("found", [10, 20], 1, "one", aliases="always")
        self.reaches("found", [1, 2, 20], 0, "one", aliases="scope")
        self.reaches("found", [10, 11], 10, "tree", aliases="scope")
        # Beneath, also what stands beneath the ends, as far as aliases there lead.
        self.reaches("found", [1, 10, 11, 20, 22, 23], 1, "beneath", aliases="scope")
        self.reaches("found", [1, 10, 11, 20, 22, 23], 1, "tree", aliases="scope")
        self.reaches("found", [1, 10, 11, 20, 22, 23], 13, "tree", aliases="scope")
        self.reaches("found", [], 13, "beneath", aliases="scope")
        self.reaches("found", [1, 10, 11, 20, 22, 23], 20, "beneath", aliases="scope")
        self.reaches("found", [1, 2, 10, 11, 20, 22, 23], 2, "tree", aliases="scope")
        self.reaches("found", [1, 2, 10, 11, 20, 22, 23], 0, "tree", aliases="scope")
        self.reaches("found", [22, 23], 22, "tree", aliases="scope")

    def test_an_end_in_the_scope_itself(self):
        # What is in the scope already, and led to by an alias there, is reached once, with all beneath it.
        tree = {1: group(0, "a"), 2: group(1, "b"), 3: group(2, "c"), 4: alias(1, "d", 2), 5: alias(1, "e", 1)}
        self.reaches("found", [1, 2, 3], 1, "tree", aliases="scope", tree=tree)
        self.reaches("found", [1, 2, 3], 1, "beneath", aliases="scope", tree=tree)
        self.reaches("found", [1, 2], 1, "one", aliases="scope", tree=tree)
        # An alias beneath an alias is in the scope of that one, not of its end.
        tree = {1: alias(0, "a", 3), 2: alias(1, "b", 4), 3: group(0, "c"), 4: group(0, "d"), 5: group(4, "e")}
        self.reaches("found", [3, 4, 5], 1, "tree", aliases="scope", tree=tree)
        self.reaches("found", [3], 1, "tree", aliases="always", tree=tree)
        self.reaches("found", [4], 1, "one", aliases="scope", tree=tree)

    def test_filters_and_limits(self):
        # Filters are asked at what is reached, wherever it stands.
        search = Search(1, "beneath", where=("within", 20), aliases="scope", limit=2)
        word, rows, more = find(self.schema, self.tree, search)
        self.assertEqual((word, [row[0] for row in rows], more), ("found", [20, 22], True))
        self.assertEqual(find(self.schema, self.tree, Search(15, aliases="base", limit=1)), ("alias", (), False))
        self.assertEqual(rows[1][1], (("label", "l"), ("label", "j"), ("label", "i")))

    def test_many_trees(self):
        schema = asking_schema()
        for seed in range(14):
            rng = random.Random(f"search {seed}")
            tree = some_tree(f"search {seed}", schema, 16, 4)
            for number in rng.sample(sorted(tree), 7):
                above, naming, classes, values = tree[number]
                tos = [("to", str(to), str(to)) for to in rng.sample(sorted(tree), rng.choice((0, 1, 1, 1, 2)))]
                rest = [value for value in values if value[0] != "to"]
                tree[number] = (above, naming, ("alias",), tuple(sorted([*rest, *tos])))
            for where in some_filters(f"search {seed}", 6):
                base = rng.choice((0, *tree))
                for scope in SCOPES:
                    for aliases in ALIASES:
                        search = Search(base, scope, where=where, aliases=aliases)
                        word, numbers = plain_reached(schema, tree, search)
                        self.assertEqual(reached(schema, tree, search), numbers)
                        found = [number for number in numbers if value_at(schema, tree, where, number) == "true"]
                        rows = tuple([(number, name_of(tree, number), *tree[number][2:]) for number in found])
                        self.assertEqual(find(schema, tree, search), (word, rows, False))

    def test_wrong_values_of_is(self):
        for value in wrong_values():
            if not is_search(value):
                self.refuses(InvalidOperation, find, self.schema, self.tree, value)
