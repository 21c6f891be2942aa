"""Tests of bailiwick.copy.rows."""

import random

from bailiwick.copy import rows
from bailiwick.copy.rows import Row, applied, difference, is_cookie
from bailiwick.errors import InvalidNumber, InvalidOperation, InvalidTree, InvalidWord, TooMany
from tests.makers import asking_schema, changed_tree, some_tree
from tests.samples import Tests, entry, is_empty_dict
from tests.test_trees import full_entry, wrong_entries
from tests.test_types import is_some_word

ONE = entry(0, "label", "a", ("group",))
TWO = entry(1, "label", "b", ("group",))
OTHER = entry(0, "label", "c", ("share",))


def is_dict_or_none(value):
    """Whether a wrong value is a dict without entries, or None, all the same."""
    return value is None or is_empty_dict(value)


def is_some_cookie(value):
    """Whether a wrong value is a cookie, or None, all the same."""
    return value is None


def many_entries(many):
    """So many entries, which need be no tree."""
    return {number: entry(77, "label", f"a{number}", ("group",)) for number in range(1, many + 1)}


class DifferenceTests(Tests):
    """Differences [25.1]."""

    def goes(self, one, other, told):
        """Tests the difference of two trees, and that it leads from the first to the second."""
        before = repr((one, other))
        found = difference(one, other)
        self.assertEqual(found, told)
        self.assertEqual(list(found), sorted(told))
        if len(other) <= 60:
            behind = applied(one, found)
            self.assertEqual(behind, other)
            self.assertEqual(list(behind), sorted(other))
        self.assertEqual(repr((one, other)), before)

    def test_constant(self):
        self.assertEqual(rows.MAX_ROW, 1000)

    def test_examples(self):
        told = [difference({1: ONE}, {2: ONE}), difference({}, {}), applied({1: ONE}, {1: None}), is_cookie(("r", 3)), is_cookie(("r", True))]
        self.assertEqual(told, [{1: None, 2: (0, ("label", "a"), ("group",), (("label", "a", "a"),))}, {}, {}, True, False])

    def test_difference(self):
        self.goes({}, {}, {})
        self.goes({1: ONE, 2: TWO}, {2: TWO, 1: ONE}, {})
        self.goes({}, {2: TWO, 1: ONE}, {1: ONE, 2: TWO})
        self.goes({2: TWO, 1: ONE}, {}, {1: None, 2: None})
        self.goes({1: ONE}, {2: ONE}, {1: None, 2: ONE})
        self.goes({1: ONE, 2: TWO, 9: ONE}, {2: OTHER, 1: ONE, 7: TWO}, {2: OTHER, 7: TWO, 9: None})
        self.goes(many_entries(60), {}, {number: None for number in range(1, 61)})
        # Each part of an entry makes it another one.
        for other in ((5, *ONE[1:]), (0, ("label", "b"), *ONE[2:]), (*ONE[:2], ("group", "share"), ONE[3]), (*ONE[:3], (("label", "a", "A"),)), (*ONE[:3], ())):
            self.goes({1: ONE}, {1: other}, {1: other})

    def test_entries_that_are_no_tree(self):
        # Numbers above that are not there, rings, namings without a value, faults of all rules.
        for value in (many_entries(3), {1: (1, ("label", "a"), ("x",), ())}, {1: (2, *ONE[1:]), 2: (1, *ONE[1:])}, {1: full_entry(60)}, {1: ONE, 2: ONE}):
            self.goes({}, value, value)
            self.goes(value, {}, {number: None for number in value})

    def test_applied(self):
        self.assertEqual(applied({}, {}), {})
        self.assertEqual(applied({1: ONE, 2: TWO}, {}), {1: ONE, 2: TWO})
        told = applied({2: TWO, 9: ONE}, {9: None, 1: ONE, 2: OTHER})
        self.assertEqual((told, list(told)), ({1: ONE, 2: OTHER}, [1, 2]))
        # What is not there is not dropped, and nothing gets what it has.
        for entries, changes in (({}, {1: None}), ({1: ONE}, {2: None}), ({1: ONE}, {1: ONE}), ({1: ONE}, {1: None, 2: None}), ({1: ONE}, {1: OTHER, 2: None}),
                                 ({1: ONE, 2: TWO}, {3: ONE, 2: TWO})):
            self.refuses(InvalidOperation, applied, entries, changes)

    def test_sixty_and_sixty_one(self):
        sixty = many_entries(60)
        nine = {number: sixty[number] for number in range(1, 60)}
        self.assertEqual(applied(nine, {60: sixty[60]}), sixty)
        self.refuses(InvalidOperation, applied, sixty, {61: ONE})
        self.refuses(InvalidOperation, applied, nine, {60: ONE, 61: ONE})
        self.assertEqual(len(applied(sixty, {61: ONE, 1: None})), 60)
        changes = {**{number: None for number in sixty}, **{number + 100: ONE for number in sixty}}
        self.assertEqual(applied(sixty, changes), {number + 100: ONE for number in sixty})
        self.assertEqual(applied(sixty, {number: OTHER for number in sixty}), {number: OTHER for number in sixty})
        self.refuses(InvalidTree, applied, many_entries(61), {})
        self.refuses(InvalidTree, difference, {}, many_entries(61))

    def test_many_trees(self):
        schema = asking_schema()
        for seed in range(30):
            one = some_tree(f"rows {seed}", schema, 12, 5)
            other = changed_tree(f"rows {seed}", schema, one)
            self.goes(one, other, {number: other.get(number) for number in sorted({*one, *other}) if one.get(number) != other.get(number)})

    def test_is_cookie(self):
        for value in (("a", 0), ("a" * 12, 10 ** 12), ("r1", 5)):
            self.assertIs(is_cookie(value), True)
        for value in (("", 0), ("A", 0), ("a" * 13, 0), ("a", -1), ("a", 10 ** 12 + 1), ("a", True), ("a", False), ("a", None), ("a", "0"), ["a", 0], ("a",),
                      ("a", 0, 0), (0, "a"), (None, 0), "a0", {"a": 0}, (("a",), 0)):
            self.assertIs(is_cookie(value), False)
        self.answers_all(is_cookie)

    def test_wrong_arguments(self):
        self.refuses_each(difference, [{1: ONE}, {2: TWO}], [(0, InvalidTree, is_empty_dict), (1, InvalidTree, is_empty_dict)])
        self.refuses_each(applied, [{1: ONE}, {2: TWO}], [(0, InvalidTree, is_empty_dict), (1, InvalidOperation, is_empty_dict)])
        for value in wrong_entries():
            self.refuses(InvalidTree, difference, {1: value}, {})
            self.refuses(InvalidTree, difference, {}, {1: value})
            self.refuses(InvalidTree, applied, {1: ONE, 2: value}, {1: None})
            if value is not None:
                self.refuses(InvalidOperation, applied, {1: ONE}, {2: value})
        for key in (0, -1, True, "1", None, 10 ** 12 + 1, (1,)):
            self.refuses(InvalidTree, difference, {key: ONE}, None)
            self.refuses(InvalidOperation, applied, {1: ONE}, {key: ONE})
            self.refuses(InvalidOperation, applied, {1: ONE}, {key: None})


class RowTests(Tests):
    """Rows [25.2, 25.3]."""

    def test_first(self):
        for row in (Row("r"), Row("r", None), Row("r", {})):
            self.assertEqual((row.identity, row.place, row.first, row.cookie, row.entries()), ("r", 0, 0, ("r", 0), {}))
        row = Row("row1", {2: TWO, 1: ONE})
        self.assertEqual((row.identity, row.place, row.first, row.cookie, row.entries()), ("row1", 0, 0, ("row1", 0), {1: ONE, 2: TWO}))
        self.assertEqual(list(row.entries()), [1, 2])

    def test_tell(self):
        row = Row("r", {1: ONE})
        self.assertEqual([row.tell({1: ONE}), row.tell({1: ONE, 2: TWO}), row.tell({2: TWO, 1: ONE}), row.tell({}), row.tell({}), row.tell({1: ONE})], [0, 1, 1, 2, 2, 3])
        self.assertEqual((row.place, row.first, row.cookie, row.entries()), (3, 0, ("r", 3), {1: ONE}))

    def test_changes(self):
        row = Row("r", {1: ONE})
        row.tell({1: ONE, 2: TWO})
        row.tell({1: OTHER, 3: TWO})
        one, two = ("step", {2: TWO}), ("step", {1: OTHER, 2: None, 3: TWO})
        done = ("done", ("r", 2))
        self.assertEqual(row.messages(("r", 0)), (("changes", "r", 0), one, two, done))
        self.assertEqual(row.messages(("r", 1)), (("changes", "r", 1), two, done))
        self.assertEqual(row.messages(("r", 2)), (("changes", "r", 2), done))
        self.assertEqual(list(row.messages(("r", 0))[2][1]), [1, 2, 3])
        self.assertEqual(row.cut(1), None)
        self.assertEqual((row.first, row.place), (1, 2))
        self.assertEqual(row.messages(("r", 1)), (("changes", "r", 1), two, done))
        self.assertEqual(row.messages(("r", 2)), (("changes", "r", 2), done))

    def test_all(self):
        row = Row("r", {1: ONE, 5: TWO})
        row.tell({1: ONE, 5: TWO, 2: TWO})
        row.tell({1: ONE, 5: OTHER, 2: TWO})
        row.tell({1: ONE, 5: OTHER, 2: TWO, 3: ONE})
        puts = (("put", 1, ONE), ("put", 2, TWO), ("put", 3, ONE), ("put", 5, OTHER))
        done = ("done", ("r", 3))
        # Without a cookie, of another identity, or beyond the place.
        for cookie in (None, ("q", 0), ("q", 3), ("q", 2), ("r", 4), ("r", 10 ** 12)):
            self.assertEqual(row.messages(cookie), (("all", "r"), *puts, done))
        # Ahead of the first place: what has not changed since is there.
        row.cut(3)
        told = {0: [1], 1: [1, 2], 2: [1, 2, 5]}
        for place, numbers in told.items():
            messages = tuple([("there", put[1]) if put[1] in numbers else put for put in puts])
            self.assertEqual(row.messages(("r", place)), (("all", "r"), *messages, done))
        self.assertEqual(row.messages(("r", 3)), (("changes", "r", 3), done))
        self.assertEqual(row.messages(("q", 2)), (("all", "r"), *puts, done))
        self.assertEqual(Row("r").messages(None), (("all", "r"), ("done", ("r", 0))))

    def test_last_changes(self):
        # An entry that goes and comes back as it was has changed; so has one that was told twice.
        row = Row("r", {1: ONE, 2: TWO})
        row.tell({1: ONE})
        row.tell({1: ONE, 2: TWO})
        row.tell({1: OTHER, 2: TWO})
        row.tell({1: ONE, 2: TWO})
        row.cut(4)
        self.assertEqual(row.messages(("r", 1))[1:-1], (("put", 1, ONE), ("put", 2, TWO)))
        self.assertEqual(row.messages(("r", 2))[1:-1], (("put", 1, ONE), ("there", 2)))
        self.assertEqual(row.messages(("r", 3))[1:-1], (("put", 1, ONE), ("there", 2)))
        # Telling the same tree changes nothing.
        row.tell({2: TWO, 1: ONE})
        self.assertEqual(row.cookie, ("r", 4))
        row.tell({2: TWO, 1: ONE, 3: ONE})
        row.cut(5)
        self.assertEqual(row.messages(("r", 4))[1:-1], (("there", 1), ("there", 2), ("put", 3, ONE)))

    def test_cuts(self):
        row = Row("r")
        for at in range(1, 6):
            self.assertEqual(row.tell(many_entries(at)), at)
        whole = [row.messages(("r", place)) for place in range(6)]
        row.cut(0)
        self.assertEqual([row.messages(("r", place)) for place in range(6)], whole)
        for first in (2, 2, 3, 5, 5):
            self.assertEqual(row.cut(first), None)
            self.assertEqual((row.first, row.place, row.entries()), (first, 5, many_entries(5)))
            for place in range(6):
                self.assertEqual(row.messages(("r", place)) == whole[place], place >= first)
                self.assertEqual(row.messages(("r", place))[0][0], "changes" if place >= first else "all")
            for place in (first - 1, 6, -1, None, "5", True, (5,), 10 ** 39):
                if place != 1 or place is True:
                    self.assertIs(self.refuses(InvalidNumber, row.cut, place).value, place)
        self.assertEqual(row.tell({}), 6)
        self.assertEqual(row.messages(("r", 5)), (("changes", "r", 5), ("step", {at: None for at in range(1, 6)}), ("done", ("r", 6))))

    def test_a_thousand_differences_and_one_more(self):
        row = Row("r", {1: ONE})
        for at in range(1, 1001):
            self.assertEqual(row.tell({1: ONE} if at % 2 == 0 else {1: OTHER}), at)
        self.assertEqual(row.tell({1: ONE}), 1000)
        self.assertEqual(self.refuses(TooMany, row.tell, {}).most, 1000)
        self.assertEqual((row.place, row.entries(), len(row.messages(("r", 0)))), (1000, {1: ONE}, 1002))
        row.cut(1000)
        self.assertEqual(self.refuses(TooMany, row.tell, {}).most, 1000)
        self.assertEqual((row.cookie, row.tell({1: ONE})), (("r", 1000), 1000))
        self.refuses(InvalidTree, row.tell, {1: None})

    def test_many_rows(self):
        # Each message of catching up against plain differences of the told trees.
        schema = asking_schema()
        for seed in range(15):
            rng = random.Random(f"many rows {seed}")
            trees = [some_tree(f"many rows {seed}", schema, 6, 3)]
            row = Row("r", trees[0])
            for at in range(12):
                tree = changed_tree(f"many rows {seed} {at}", schema, trees[-1])
                self.assertEqual(row.tell(tree), len(trees) - (tree == trees[-1]))
                trees += [tree] if tree != trees[-1] else []
                if rng.randrange(5) == 0:
                    row.cut(rng.randrange(row.first, row.place + 1))
                for place in range(row.place + 1):
                    messages = row.messages(("r", place))
                    self.assertEqual(messages[-1], ("done", row.cookie))
                    if place >= row.first:
                        steps = tuple([("step", difference(one, other)) for one, other in zip(trees[place:], trees[place + 1:])])
                        self.assertEqual(messages[:-1], (("changes", "r", place), *steps))
                        continue
                    told = []
                    for number in sorted(tree):
                        is_there = all(each.get(number) == tree[number] for each in trees[place:])
                        told.append(("there", number) if is_there else ("put", number, tree[number]))
                    self.assertEqual(messages[:-1], (("all", "r"), *told))

    def test_nothing_gives_access(self):
        tree = {1: ONE}
        row = Row("r", tree)
        tree.clear()
        tree = {1: ONE, 2: TWO}
        row.tell(tree)
        tree.clear()
        row.entries().clear()
        row.messages(("r", 0))[1][1].clear()
        self.assertEqual(row.entries(), {1: ONE, 2: TWO})
        self.assertEqual(row.messages(("r", 0))[1], ("step", {2: TWO}))
        self.cannot_iterate(row)
        self.equals_itself_alone(row, row, [Row("r")])

    def test_wrong_arguments(self):
        self.refuses_each(Row, ["r", {1: ONE}], [(0, InvalidWord, is_some_word), (1, InvalidTree, is_dict_or_none)])
        row = Row("r", {1: ONE})
        row.tell({1: ONE, 2: TWO})
        state = (row.cookie, row.first, row.entries(), row.messages(("r", 0)))
        self.refuses_each(row.tell, [{1: ONE}], [(0, InvalidTree, is_empty_dict)])
        self.refuses_each(row.cut, [5], [(0, InvalidNumber, lambda value: value in (0, 1) and not isinstance(value, bool))])
        self.refuses_each(row.messages, [("r", 0)], [(0, InvalidOperation, is_some_cookie)])
        for cookie in (("r", -1), ("r", True), ("R", 0), ("r",), ["r", 0], ("r", 10 ** 12 + 1), "r", ("r", 0, 0), False):
            self.refuses(InvalidOperation, row.messages, cookie)
        for value in (many_entries(61), {0: ONE}, {True: TWO}, {2: ONE[:3]}, {1: None}):
            self.refuses(InvalidTree, row.tell, value)
        self.assertEqual((row.cookie, row.first, row.entries(), row.messages(("r", 0))), state)
