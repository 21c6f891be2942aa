"""Tests of bailiwick.ask.watches."""

import random

from bailiwick.ask.search import Search, find
from bailiwick.ask.watches import Watch, is_message, is_state, messages_between, state_behind
from bailiwick.errors import InvalidOperation, InvalidSchema, InvalidTree
from bailiwick.rules.schemas import Schema
from bailiwick.tree.trees import is_tree
from tests.makers import asking_schema, changed_tree, some_filters, some_tree
from tests.samples import Tests, entry, is_empty_dict, is_schema, sample_schema, sample_tree, with_place, wrong_values
from tests.test_filters import EVERYTHING
from tests.test_search import ALIASES, SCOPES, alias_tree, is_search
from tests.test_trees import full_entry

ROW = (7, (("cn", "A"), ("ou", "b")), ("unit", "vip"), (("cn", "a", "A"), ("mark", "5", "5")))
OTHER = (7, (("cn", "B"),), ("unit",), ())


def row(number, text="a"):
    """A row of an entry with a number."""
    return (number, (("cn", text),), ("unit",), (("cn", text, text),))


def is_some_state(value):
    """Whether a wrong value is a state all the same."""
    return isinstance(value, dict) and value == {}


def are_some_messages(value):
    """Whether a wrong value is a tuple of messages all the same."""
    return isinstance(value, tuple) and value == ()


def wrong_rows():
    """Values that are no rows of the entry 7, each made of a row by one exchange."""
    found = [value for value in wrong_values()]
    found += [ROW[:3], (*ROW, ()), list(ROW)]
    found += [tuple(with_place(ROW, 0, value)) for value in wrong_values()]
    names = [(), (("cn", "A"),) * 9, [("cn", "A")], (["cn", "A"],), (("cn",),), (("cn", ""),), (("Cn", "a"),), (("cn", "a", "b"),),
             (("cn", "x" * 101),), (("cn", "a\n"),), (("cn", 1),), ("cn", "a"), None, "cn=a", ((1, "a"),)]
    classes = [(), ["unit"], ("vip", "unit"), ("unit", "unit"), ("Unit",), ("",), (1,), None, "unit", ("a" * 13,), (True,)]
    values = [
        [("cn", "a", "A")], (["cn", "a", "A"],), (("cn", "a"),), (("cn", "a", "A", "b"),), (("cn", "", "A"),), (("cn", "a", ""),),
        (("CN", "a", "A"),), (("cn", "a", "A"), ("cn", "a", "B")), (("mark", "5", "5"), ("cn", "a", "A")),
        (("cn", "a", "A"), ("cn", "a", "A")), (("cn", 1, "A"),), (("cn", "a", None),), None, ("cn", "a", "A"), {},
        full_entry(61)[3], (("cn", "x" * 101, "a"),), (("cn", "a", "a\n"),)]
    found += [(7, name, *ROW[2:]) for name in names]
    found += [(*ROW[:2], each, ROW[3]) for each in classes]
    return found + [(*ROW[:3], each) for each in values]


class StateTests(Tests):
    """States and messages [16.1]."""

    def test_is_state(self):
        full = (1, (("cn", "a"),) * 8, ("a" * 12,), full_entry(60)[3])
        for value in ({}, {7: ROW}, {7: OTHER}, {9: row(9), 7: ROW, 8: row(8)}, {1: full}, {10 ** 12: row(10 ** 12)},
                      {at: row(at) for at in range(1, 100)}):
            self.assertIs(is_state(value), True, value)
        for value in wrong_rows():
            self.assertIs(is_state({7: value}), False, value)
            self.assertIs(is_state({8: row(8), 7: value}), False, value)
        for number in (8, 0, -1, 10 ** 12 + 1, "7", None, (7,), 10 ** 39):
            self.assertIs(is_state({number: ROW}), False)
        for key in (True, 0, "1", None):
            self.assertIs(is_state({key: row(1)}), False)
            self.assertIs(is_state({key: row(key)}), False)
        self.assertIs(is_state({1: row(True)}), False)
        self.assertIs(is_state({True: row(1)}), False)
        for value in ([(7, ROW)], ((7, ROW),), (ROW,), ROW, {7}, None, {7: {7: ROW}}):
            self.assertIs(is_state(value), False)
        self.answers_all(is_state)

    def test_is_message(self):
        for value in (("in", 7, ROW), ("now", 7, OTHER), ("out", 7), ("out", 10 ** 12), ("in", 1, row(1))):
            self.assertIs(is_message(value), True)
        for word in ("in", "now"):
            for value in wrong_rows():
                self.assertIs(is_message((word, 7, value)), False, value)
            for number in (8, 0, -1, 10 ** 12 + 1, True, "7", None):
                self.assertIs(is_message((word, number, ROW)), False)
            self.assertIs(is_message((word, True, row(1))), False)
            self.assertIs(is_message((word, 1, row(True))), False)
            for value in ((word, 7), (word,), (word, 7, ROW, ROW), [word, 7, ROW], (word, ROW), (word, ROW, 7)):
                self.assertIs(is_message(value), False)
        for value in (("out", 7, ROW), ("out",), ("out", 0), ("out", True), ("out", 10 ** 12 + 1), ("out", "7"), ("out", (7,)),
                      ["out", 7], ("Out", 7), ("gone", 7), (7,), ("", 7), ((), 7), (None, 7, ROW), "out", {"out": 7}):
            self.assertIs(is_message(value), False)
        self.answers_all(is_message)

    def test_messages_between(self):
        one = {9: row(9), 2: row(2), 7: ROW, 4: row(4)}
        other = {7: OTHER, 3: row(3), 9: row(9), 1: row(1), 4: row(4, "b")}
        messages = (("in", 1, row(1)), ("out", 2), ("in", 3, row(3)), ("now", 4, row(4, "b")), ("now", 7, OTHER))
        self.assertEqual(messages_between(one, other), messages)
        self.assertEqual(state_behind(one, messages), other)
        self.assertEqual(list(state_behind(one, messages)), [1, 3, 4, 7, 9])
        self.assertEqual(messages_between(other, one), (
            ("out", 1), ("in", 2, row(2)), ("out", 3), ("now", 4, row(4)), ("now", 7, ROW)))
        self.assertEqual(messages_between(one, one), ())
        self.assertEqual(messages_between({}, {}), ())
        self.assertEqual(messages_between({}, {7: ROW}), (("in", 7, ROW),))
        self.assertEqual(messages_between({7: ROW}, {}), (("out", 7),))
        # Each part of a row makes it another one.
        for at, value in ((1, (("cn", "A"), ("ou", "B"))), (2, ("unit",)), (3, (("cn", "a", "A"),))):
            changed = tuple(with_place(ROW, at, value))
            self.assertEqual(messages_between({7: ROW}, {7: changed}), (("now", 7, changed),))

    def test_state_behind(self):
        state = {7: ROW, 2: row(2)}
        told = state_behind(state, ())
        self.assertEqual((told, list(told)), (state, [2, 7]))
        told.clear()
        self.assertEqual(state, {7: ROW, 2: row(2)})
        # A `now` can tell the row that is there.
        self.assertEqual(state_behind(state, (("now", 7, ROW),)), state)
        self.assertEqual(state_behind({}, (("in", 7, ROW),)), {7: ROW})
        for messages in ((("in", 7, ROW),), (("in", 2, row(2)),), (("now", 3, row(3)),), (("out", 3),),
                         (("in", 1, row(1)), ("out", 3)), (("out", 2), ("now", 5, row(5)), ("out", 7))):
            self.refuses(InvalidOperation, state_behind, state, messages)
        # Numbers that do not ascend.
        for messages in ((("out", 7), ("out", 2)), (("out", 2), ("out", 2)), (("out", 2), ("in", 2, row(2))),
                         (("in", 1, row(1)), ("now", 1, row(1))), (("out", 2), ("out", 7), ("in", 3, row(3)))):
            self.refuses(InvalidOperation, state_behind, state, messages)
        for messages in ([("out", 7)], ("out", 7), (("out", 7), None), (["out", 7],), {7: ("out", 7)}, ((("out", 7),),),
                         (("in", 8, row(9)),), (("out", True),)):
            self.refuses(InvalidOperation, state_behind, state, messages)

    def test_wrong_arguments(self):
        self.refuses_each(messages_between, [{7: ROW}, {7: OTHER}], [
            (0, InvalidOperation, is_some_state), (1, InvalidOperation, is_some_state)])
        self.refuses_each(state_behind, [{7: ROW}, (("out", 7),)], [
            (0, InvalidOperation, is_some_state), (1, InvalidOperation, are_some_messages)])
        for value in wrong_rows():
            self.refuses(InvalidOperation, messages_between, {7: value}, {})
            self.refuses(InvalidOperation, messages_between, {}, {7: value})
            self.refuses(InvalidOperation, state_behind, {7: value}, ())
            self.refuses(InvalidOperation, state_behind, {}, (("in", 7, value),))


class WatchTests(Tests):
    """Watches [16.2, 0.19]."""

    def setUp(self):
        self.schema = sample_schema()
        self.tree = sample_tree()
        self.watch = Watch(self.schema, self.tree, Search(2))

    def plain_state(self, tree, search, schema=None):
        """The word and the state of a search at a tree."""
        word, rows, _ = find(schema or self.schema, tree, search)
        return word, {row[0]: row for row in rows}

    def follows(self, watch, tree, *messages):
        """Tests what is told when a watch follows a tree."""
        told = watch.told
        self.assertEqual(watch.follow(tree), messages)
        self.assertEqual(watch.told, told + len(messages))
        self.assertEqual((watch.word, watch.state()), self.plain_state(tree, watch.search))
        self.assertEqual(list(watch.state()), sorted(watch.state()))

    def row(self, tree, number):
        """The row of an entry."""
        return self.plain_state(tree, Search(number, "base"))[1][number]

    def test_first(self):
        self.assertEqual((self.watch.search, self.watch.word, self.watch.told), (Search(2), "found", 0))
        self.assertEqual(self.watch.state(), self.plain_state(self.tree, Search(2))[1])
        self.assertEqual(sorted(self.watch.state()), [2, 10, 20, 30])
        watch = Watch(self.schema, {}, Search(2))
        self.assertEqual((watch.word, watch.told, watch.state()), ("absent", 0, {}))

    def test_messages(self):
        self.follows(self.watch, self.tree)
        tree = dict(self.tree)
        tree[30] = entry(2, "cn", "cy", ("worker",), ("age", "8"))
        tree[15] = entry(10, "cn", "new", ("human",))
        self.follows(self.watch, tree, ("in", 15, self.row(tree, 15)), ("now", 30, self.row(tree, 30)))
        del tree[20], tree[15]
        self.follows(self.watch, tree, ("out", 15), ("out", 20))
        self.follows(self.watch, tree)
        # Another name above changes the rows beneath.
        tree[2] = entry(1, "cn", "zwei", ("unit",), ("mark", "5"))
        self.follows(self.watch, tree, *[("now", number, self.row(tree, number)) for number in (2, 10, 30)])
        # What does not lie in the scope, and what is not told, makes no message.
        tree[5] = entry(0, "cn", "fifth", ("unit",))
        self.follows(self.watch, tree)

    def test_what_is_not_told_makes_no_message(self):
        watch = Watch(self.schema, self.tree, Search(0, where=("class", "human"), types=("age",)))
        tree = {**self.tree, 10: (2, ("cn", "ann"), ("human",), (("cn", "ann", "Ann"), ("mail", "b", "b")))}
        self.follows(watch, tree)
        tree[10] = (2, ("cn", "ann"), ("human",), (("age", "5", "5"), ("cn", "ann", "Ann")))
        self.follows(watch, tree, ("now", 10, (10, self.row(tree, 10)[1], ("human",), (("age", "5", "5"),))))
        tree[2] = entry(1, "cn", "two", ("unit",), ("mark", "6"))
        self.follows(watch, tree)
        # A filter that is true no more, and true again.
        tree[30] = entry(2, "cn", "cy", ("unit",))
        self.follows(watch, tree, ("out", 30))
        tree[30] = self.tree[30]
        self.assertEqual([message[:2] for message in watch.follow(tree)], [("in", 30)])

    def test_a_base_that_goes_and_comes_back(self):
        state = self.watch.state()
        gone = {1: self.tree[1], 5: self.tree[5]}
        self.follows(self.watch, gone, *[("out", number) for number in (2, 10, 20, 30)])
        self.assertEqual((self.watch.word, self.watch.state()), ("absent", {}))
        self.follows(self.watch, {})
        self.follows(self.watch, self.tree, *[("in", number, state[number]) for number in (2, 10, 20, 30)])
        self.assertEqual((self.watch.word, self.watch.told), ("found", 8))
        # The base is watched by its number, wherever it stands and whatever its name is.
        tree = {**self.tree, 2: entry(5, "cn", "there", ("unit",))}
        self.follows(self.watch, tree, *[("now", number, self.row(tree, number)) for number in (2, 10, 20, 30)])

    def test_a_base_that_is_an_alias(self):
        watch = Watch(self.schema, alias_tree(), Search(13, "one", aliases="base"))
        self.assertEqual((watch.word, sorted(watch.state())), ("found", [21, 22]))
        tree = alias_tree()
        tree[13] = entry(1, "label", "e", ("alias",), ("to", "13"))
        self.follows(watch, tree, ("out", 21), ("out", 22))
        self.assertEqual(watch.word, "alias")
        tree[13] = entry(1, "label", "e", ("alias",), ("to", "1"))
        self.follows(watch, tree, *[("in", number, self.row(tree, number)) for number in (10, 13, 14, 15, 16)])

    def test_many_trees(self):
        schema = asking_schema()
        for seed in range(25):
            rng = random.Random(f"watch {seed}")
            tree = some_tree(f"watch {seed}", schema, 15, 5)
            search = Search(rng.choice((0, 0, *tree)), rng.choice(SCOPES), where=rng.choice((EVERYTHING, *some_filters(seed, 2))),
                            types=rng.choice(((), ("cn",), ("size", "tag"))), aliases=rng.choice(ALIASES))
            watch = Watch(schema, tree, search)
            state, told = watch.state(), 0
            for at in range(12):
                tree = changed_tree(f"watch {seed} {at}", schema, tree) if rng.randrange(9) else {}
                before = state
                messages = watch.follow(tree)
                state, told = state_behind(state, messages), told + len(messages)
                self.assertTrue(all(is_message(message) for message in messages))
                self.assertEqual((watch.word, state), self.plain_state(tree, search, schema))
                self.assertEqual((watch.state(), watch.told), (state, told))
                self.assertEqual(messages, messages_between(before, state))
                self.assertTrue(is_state(state))
                # Nothing is told that did not change.
                self.assertEqual(len(messages), len([number for number in {*before, *state}
                                                     if before.get(number) != state.get(number)]))
                self.assertEqual(watch.follow(dict(tree)), ())

    def test_twin(self):
        self.watch.follow({})
        twin = self.watch.twin()
        self.assertIsInstance(twin, Watch)
        self.assertEqual((twin.search, twin.word, twin.told, twin.state()), (Search(2), "absent", 4, {}))
        messages = self.watch.follow(self.tree)
        self.assertEqual((twin.word, twin.told, twin.state()), ("absent", 4, {}))
        self.assertEqual(twin.follow(self.tree), messages)
        self.assertEqual((twin.word, twin.told, twin.state()), (self.watch.word, self.watch.told, self.watch.state()))
        twin.follow({})
        self.assertEqual(sorted(self.watch.state()), [2, 10, 20, 30])

    def test_nothing_gives_access(self):
        tree = sample_tree()
        watch = Watch(self.schema, tree, Search(2))
        tree.clear()
        watch.state().clear()
        self.follows(watch, self.tree)
        watch.twin().follow({})
        self.follows(watch, self.tree)

    def test_wrong_arguments(self):
        right = [(0, InvalidSchema, is_schema), (1, InvalidTree, is_empty_dict), (2, InvalidOperation, is_search)]
        self.refuses_each(Watch, [self.schema, self.tree, Search(0)], right)
        for limit in (1, 60):
            self.refuses(InvalidOperation, Watch, self.schema, self.tree, Search(0, limit=limit))
        self.refuses(InvalidTree, Watch, Schema((), ()), self.tree, None)
        before = (self.watch.word, self.watch.told, self.watch.state())
        self.refuses_each(self.watch.follow, [self.tree], [(0, InvalidTree, is_empty_dict)])
        loose = {1: entry(0, "cn", "a", ("unit",), ("boss", "2"))}
        for tree in (loose, {True: self.tree[5]}, {5: self.tree[5][:3]}, None):
            self.assertFalse(is_tree(self.schema, tree))
            self.refuses(InvalidTree, self.watch.follow, tree)
        self.assertEqual((self.watch.word, self.watch.told, self.watch.state()), before)
        self.follows(self.watch, self.tree)

    def test_other(self):
        self.cannot_iterate(self.watch)
        self.equals_itself_alone(self.watch, self.watch, [self.watch.twin(), Search(2)])
