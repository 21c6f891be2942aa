"""Tests of bailiwick.tree.trees."""

import random

from bailiwick.errors import InvalidName, InvalidNumber, InvalidSchema, InvalidTree, InvalidWord, UnknownNumber
from bailiwick.rules.schemas import Schema
from bailiwick.tree import trees
from bailiwick.tree.trees import (
    beneath, children, does_stand_beneath, entry_of, is_entry, is_tree, level, name_of, number_of, texts_of, upward,
)
from tests.samples import (
    Tests, entry, is_empty_dict, is_schema, never, sample_schema, sample_tree, with_place, wrong_values,
)
from tests.test_names import is_some_name
from tests.test_types import is_some_word

ONE = entry(0, "cn", "one", ("unit",))


def chain_tree(many):
    """A tree of so many entries, each but the first beneath the one ahead of it."""
    return {at: entry(at - 1, "cn", "a", ("unit",)) for at in range(1, many + 1)}


def wide_tree(many):
    """A tree of so many entries right beneath the root."""
    return {at: entry(0, "cn", f"n{at}", ("unit",)) for at in range(1, many + 1)}


def full_entry(many):
    """An entry with so many values."""
    return entry(0, "cn", "a", ("unit",), *[("mail", f"m{at}") for at in range(many - 1)])


def is_right_part(at, value):
    """Whether a wrong value is right in a place of an entry all the same."""
    if isinstance(value, bool):
        return False
    return value in ((0, 1, 10 ** 12), (("a", "b"), ("b", "a"), ("a", "a")), (("a",), ("a", "b")), ((),))[at]


def wrong_entries():
    """Values that are no entries, each made of an entry by one exchange."""
    found = [ONE[:3], (*ONE, ()), list(ONE), None, "entry", ()]
    for at in range(4):
        found += [tuple(with_place(ONE, at, value)) for value in wrong_values() if not is_right_part(at, value)]
    namings = (["cn", "one"], ("cn", "x" * 101), ("Cn", "one"), ("cn",), ("cn", "one", "one"), ("cn", ""), ("cn", 1))
    found += [(0, naming, *ONE[2:]) for naming in namings]
    found += [(*ONE[:2], classes, ONE[3]) for classes in (("b", "a"), ("a", "a"), ("A",), ["a"], (), ("a" * 13,), ("",))]
    for at in range(3):
        values = [value for value in wrong_values() if value not in ("a", "A", "1", " ", "0", "-0") and not is_long_text(value)]
        found += [(*ONE[:3], (tuple(with_place(("cn", "one", "one"), at, value)),)) for value in values]
    found += [(*ONE[:3], values) for values in (
        (("cn", "one"),), (("cn", "one", "one", "one"),), [("cn", "one", "one")], (["cn", "one", "one"],),
        (("cn", "one", "one"), ("cn", "one", "one")), (("cn", "one", "ONE"), ("cn", "one", "one")),
        (("cn", "one", "one"), ("cn", "a", "a")), (("cn", "one", "one"), ("age", "1", "1")),
    )]
    return found


def is_long_text(value):
    """Whether a value is a text of letters."""
    return isinstance(value, str) and 1 <= len(value) <= 100 and value.isalpha()


class EntryTests(Tests):
    """Entries [0.9], [7.1]."""

    def setUp(self):
        self.schema = sample_schema()

    def test_constants(self):
        self.assertEqual((trees.MAX_ENTRIES, trees.MAX_LEVEL, trees.MAX_VALUES), (60, 8, 60))

    def test_entries(self):
        for each in (*sample_tree().values(), (0, ("cn", "a"), ("nowhere",), ()), full_entry(60),
                     (10 ** 12, ("cn", "a"), ("a", "b"), (("mail", "B", "B"), ("mail", "a", "a"))),
                     (0, ("cn", "a"), ("unit",), (("cn", "a b", " A  b "),))):
            self.assertIs(is_entry(self.schema, each), True)

    def test_values_by_the_schema(self):
        for value in (("cn", "One", "One"), ("cn", "one", "two"), ("x", "one", "one"), ("age", "01", "01"), ("age", "1", "01"),
                      ("ok", "Yes", "Yes"), ("boss", "0", "0"), ("mail", "a", "A"), ("cn", "a", " a  b"), ("cn", " ", " ")):
            self.assertIs(is_entry(self.schema, (*ONE[:3], (value,))), False, value)
        self.assertIs(is_entry(self.schema, (0, ("boss", "1"), ("unit",), (("boss", "1", "1"),))), False)
        self.assertIs(is_entry(self.schema, (0, ("to", "1"), ("unit",), (("to", "1", "1"),))), False)
        self.assertIs(is_entry(Schema((), ()), ONE), False)

    def test_no_entries(self):
        for each in wrong_entries():
            self.assertIs(is_entry(self.schema, each), False, each)
        self.assertIs(is_entry(self.schema, full_entry(61)), False)
        self.answers_all(is_entry, (self.schema,))
        self.refuses_each(is_entry, [self.schema, ONE], [(0, InvalidSchema, is_schema)])


class TreeTests(Tests):
    """Trees [0.10], [7.1]."""

    def setUp(self):
        self.schema = sample_schema()

    def test_trees(self):
        for tree in ({}, sample_tree(), wide_tree(60), chain_tree(8), {1: full_entry(60)}, {10 ** 12: ONE},
                     {5: (0, ("cn", "a"), ("nowhere",), (("boss", "5", "5"), ("cn", "a", "A")))}):
            self.assertIs(is_tree(self.schema, tree), True)
        backward = {number: sample_tree()[number] for number in sorted(sample_tree(), reverse=True)}
        self.assertIs(is_tree(self.schema, backward), True)

    def test_bounds(self):
        for tree in (wide_tree(61), chain_tree(9), {1: full_entry(61)}, {10 ** 12 + 1: ONE}, {0: ONE}, {-1: ONE}):
            self.assertIs(is_tree(self.schema, tree), False)
        branched = {**chain_tree(8), 20: entry(8, "cn", "b", ("unit",))}
        self.assertIs(is_tree(self.schema, branched), False)
        branched[20] = entry(7, "cn", "b", ("unit",))
        self.assertIs(is_tree(self.schema, branched), True)

    def test_ways_upward(self):
        self.assertIs(is_tree(self.schema, {2: entry(1, "cn", "a", ("unit",))}), False)
        self.assertIs(is_tree(self.schema, {1: entry(1, "cn", "a", ("unit",))}), False)
        ring = {1: entry(2, "cn", "a", ("unit",)), 2: entry(1, "cn", "a", ("unit",)), 3: entry(1, "cn", "b", ("unit",))}
        self.assertIs(is_tree(self.schema, ring), False)

    def test_namings(self):
        tree = {1: (0, ("cn", "two"), ("unit",), (("cn", "one", "one"),))}
        self.assertIs(is_tree(self.schema, tree), False)
        self.assertIs(is_tree(self.schema, {1: (0, ("cn", "one"), ("unit",), ())}), False)
        self.assertIs(is_tree(self.schema, {1: (0, ("mail", "one"), ("unit",), (("cn", "one", "one"),))}), False)
        tree = {1: ONE, 2: entry(0, "cn", "one", ("human",), ("mail", "a"))}
        self.assertIs(is_tree(self.schema, tree), False)
        tree[2] = entry(1, "cn", "one", ("human",))
        self.assertIs(is_tree(self.schema, tree), True)
        tree[3] = entry(0, "mail", "one", ("human",))
        self.assertIs(is_tree(self.schema, tree), True)
        self.assertIs(is_tree(self.schema, {1: (0, ("boss", "1"), ("unit",), (("boss", "1", "1"),))}), False)

    def test_links(self):
        for word in ("boss", "pal", "to", "member", "whom"):
            self.assertIs(is_tree(self.schema, {1: entry(0, "cn", "a", ("unit",), (word, "2"))}), False)
            self.assertIs(is_tree(self.schema, {1: entry(0, "cn", "a", ("unit",), (word, "1"))}), True)

    def test_what_stands_in_a_tree_need_not_be_right(self):
        tree = {1: (0, ("nick", "a"), ("alias", "vip", "zzz"), (("age", "1", "1"), ("age", "2", "2"), ("nick", "a", "A")))}
        self.assertIs(is_tree(self.schema, tree), True)

    def test_no_trees(self):
        for each in wrong_entries():
            self.assertIs(is_tree(self.schema, {1: each}), False)
        for value in (True, False, None, 0, -1, 10 ** 12 + 1, 10 ** 39, "1", "", (), (1,)):
            self.assertIs(is_tree(self.schema, {value: ONE}), False)
        for value in ([ONE], (ONE,), {True: ONE}, {1: [ONE]}, {1: None}, {(1,): ONE}, {1: {}}, [(1, ONE)]):
            self.assertIs(is_tree(self.schema, value), False)
        self.answers_all(is_tree, (self.schema,))
        self.refuses_each(is_tree, [self.schema, {}], [(0, InvalidSchema, is_schema)])


class EntryOfTests(Tests):
    """The function entry_of."""

    def setUp(self):
        self.schema = sample_schema()

    def test_example(self):
        told = entry_of(Schema((), ()), 0, ("label", "a"), ("group",), (("member", "7"), ("label", "a")))
        self.assertEqual(told, (0, ("label", "a"), ("group",), (("label", "a", "a"), ("member", "7", "7"))))

    def test_any_order_and_twice(self):
        told = entry_of(self.schema, 7, ("cn", " ANN "), ("vip", "human", "vip"), (
            ("mail", "b"), ("cn", "Ann"), ("cn", "aNN"), ("mail", "B"), ("mail", "b"), ("cn", " x  Y "), ("cn", "x y")))
        self.assertEqual(told, (7, ("cn", "ann"), ("human", "vip"), (
            ("cn", "ann", "Ann"), ("cn", "x y", " x  Y "), ("mail", "B", "B"), ("mail", "b", "b"))))
        self.assertTrue(is_entry(self.schema, told))

    def test_no_such_entry(self):
        good = [self.schema, 0, ("cn", "a"), ("unit",), (("cn", "a"),)]
        self.assertEqual(entry_of(*good), entry(0, "cn", "a", ("unit",)))
        for place, values in {
            2: (("x", "a"), ("cn", " "), ("boss", "1"), ("age", "01"), ("cn", ""), ["cn", "a"], ("cn", "a", "a"), ("CN", "a")),
            3: ((), ["unit"], ("Unit",), ("unit", 1), "unit", ("",)),
            4: ((("x", "a"),), (("cn", " "),), (("age", "+1"),), [("cn", "a")], (["cn", "a"],), (("cn", "a", "a"),), (("cn", 1),),
                (("cn", "a"), ("cn", " ")), (("cn", " "), ("cn", "a")), (("cn", "a"), ("cn",)), (("cn", "a"), "cn")),
        }.items():
            for value in values:
                self.refuses(InvalidTree, entry_of, *with_place(good, place, value))

    def test_bounds(self):
        pairs = tuple([("mail", f"m{at}") for at in range(59)])
        good = [self.schema, 0, ("cn", "a"), ("unit",), (("cn", "a"), *pairs, *pairs, ("cn", "A"))]
        self.assertEqual(len(entry_of(*good)[3]), 60)
        self.refuses(InvalidTree, entry_of, *good[:4], (*good[4], ("mail", "one more")))
        self.assertEqual(entry_of(*with_place(good, 1, 10 ** 12))[0], 10 ** 12)
        for above in (-1, 10 ** 12 + 1, True, False, "1", None):
            self.assertIs(self.refuses(InvalidNumber, entry_of, *with_place(good, 1, above)).value, above)

    def test_wrong_arguments(self):
        def is_place(value):
            return not isinstance(value, bool) and value in (0, 1, 10 ** 12)

        self.refuses_each(entry_of, [self.schema, 0, ("cn", "a"), ("unit",), (("cn", "a"),)], [
            (0, InvalidSchema, is_schema), (1, InvalidNumber, is_place), (2, InvalidTree, never),
            (3, InvalidTree, lambda value: value in (("a",), ("a", "b"), ("b", "a"), ("a", "a"))),
            (4, InvalidTree, lambda value: value == ()),
        ])


class WayTests(Tests):
    """Ways, levels and names [7.2], [7.3], [0.10]."""

    def setUp(self):
        self.schema = sample_schema()
        self.tree = sample_tree()

    def test_upward(self):
        told = {number: upward(self.tree, number) for number in (0, *self.tree)}
        self.assertEqual(told, {0: (), 1: (1,), 2: (2, 1), 5: (5,), 10: (10, 2, 1), 20: (20, 10, 2, 1), 30: (30, 2, 1)})
        self.assertEqual(upward(chain_tree(8), 8), (8, 7, 6, 5, 4, 3, 2, 1))

    def test_level(self):
        self.assertEqual([level(self.tree, number) for number in (0, 1, 2, 5, 10, 20, 30)], [0, 1, 2, 1, 3, 4, 3])
        self.assertEqual(level(chain_tree(8), 8), 8)

    def test_name_of(self):
        self.assertEqual(name_of(self.tree, 0), ())
        self.assertEqual(name_of(self.tree, 1), (("cn", "one"),))
        self.assertEqual(name_of(self.tree, 20), (("cn", "Bob  B"), ("cn", "Ann"), ("cn", "two"), ("cn", "one")))

    def test_number_of(self):
        for number in (0, *self.tree):
            self.assertEqual(number_of(self.schema, self.tree, name_of(self.tree, number)), number)
        for name, number in [
            ((("cn", " BOB b"), ("cn", "ANN"), ("cn", "Two"), ("cn", "oNE ")), 20), ((("cn", "ann"),), None),
            ((("cn", "One"),), 1), ((("nick", "one"),), None), ((("label", "one"),), None), ((("x", "one"),), None),
            ((("age", "01"),), None), ((("cn", " "),), None), ((("x", "y"), ("cn", "one")), None),
            ((("cn", "two"), ("x", "one")), None), ((("cn", "ann"), ("cn", "one")), None), ((("cn", "five"),), 5),
            ((("mail", "A@x"), ("cn", "two"), ("cn", "one")), None), ((("cn", "one"),) * 8, None),
        ]:
            self.assertEqual(number_of(self.schema, self.tree, name), number, name)
        self.assertEqual(number_of(self.schema, {}, ()), 0)
        deep = chain_tree(8)
        self.assertEqual(number_of(self.schema, deep, (("cn", "A"),) * 8), 8)
        self.assertEqual(number_of(self.schema, deep, (("cn", "A"),) * 3), 3)

    def test_exact_names_keep_their_writing(self):
        tree = {1: entry(0, "mail", "A b", ("human",)), 2: entry(0, "mail", "a b", ("human",))}
        self.assertEqual([number_of(self.schema, tree, (("mail", text),)) for text in ("A b", "a b", "a  b")], [1, 2, None])

    def test_children_and_beneath(self):
        told = {number: (children(self.tree, number), beneath(self.tree, number)) for number in (0, *self.tree)}
        self.assertEqual(told, {
            0: ((1, 5), (1, 2, 5, 10, 20, 30)), 1: ((2,), (2, 10, 20, 30)), 2: ((10, 30), (10, 20, 30)), 5: ((), ()),
            10: ((20,), (20,)), 20: ((), ()), 30: ((), ()),
        })
        backward = {number: self.tree[number] for number in sorted(self.tree, reverse=True)}
        for number in told:
            self.assertEqual((children(backward, number), beneath(backward, number)), told[number])

    def test_does_stand_beneath(self):
        for number in self.tree:
            for other in (0, *self.tree):
                told = does_stand_beneath(self.tree, number, other)
                self.assertIs(told, number in beneath(self.tree, other))
        self.assertIs(does_stand_beneath(self.tree, 2, 2), False)

    def test_texts_of(self):
        tree = {1: (0, ("cn", "a"), ("unit",), (("cn", "a", "Z"), ("cn", "b", "B"), ("cn", "c", "A"), ("nick", "q", "Q")))}
        self.assertEqual([texts_of(tree, 1, word) for word in ("cn", "nick", "pet", "x")], [("Z", "B", "A"), ("Q",), (), ()])

    def test_trees_by_what_can_be_told_without_a_schema(self):
        odd = {1: (0, ("x", "A"), ("zz",), (("boss", "77", "77"), ("x", "A", "b")))}
        self.assertEqual((upward(odd, 1), level(odd, 1), name_of(odd, 1)), ((1,), 1, (("x", "b"),)))
        self.assertEqual((children(odd, 0), beneath(odd, 0), texts_of(odd, 1, "boss")), ((1,), (1,), ("77",)))
        self.assertIs(does_stand_beneath(odd, 1, 0), True)
        for wrong in (wide_tree(61), chain_tree(9), {2: entry(1, "cn", "a", ("unit",))}, {1: entry(1, "cn", "a", ("unit",))},
                      {1: (0, ("cn", "one"), ("unit",), ())}, {1: ONE, 2: ONE}, {1: full_entry(61)}, {1: ONE[:3]}):
            for call, more in ((upward, (1,)), (level, (1,)), (name_of, (1,)), (children, (1,)), (beneath, (1,)),
                               (does_stand_beneath, (1, 0)), (texts_of, (1, "cn"))):
                self.refuses(InvalidTree, call, wrong, *more)
        self.refuses(InvalidTree, number_of, self.schema, odd, ())

    def test_wrong_arguments(self):
        def is_number(value):
            return value == 1 and not isinstance(value, bool)

        def is_place(value):
            return value in (0, 1) and not isinstance(value, bool)

        for call in (upward, level, name_of, children, beneath):
            self.refuses_each(call, [self.tree, 1], [(0, InvalidTree, is_empty_dict), (1, UnknownNumber, is_place)])
        self.refuses_each(does_stand_beneath, [self.tree, 1, 0], [
            (0, InvalidTree, is_empty_dict), (1, UnknownNumber, is_number), (2, UnknownNumber, is_place)])
        self.refuses_each(texts_of, [self.tree, 1, "cn"], [
            (0, InvalidTree, is_empty_dict), (1, UnknownNumber, is_number), (2, InvalidWord, is_some_word)])
        self.refuses_each(number_of, [self.schema, self.tree, ()], [
            (0, InvalidSchema, is_schema), (1, InvalidTree, is_empty_dict), (2, InvalidName, is_some_name)])
        self.refuses(InvalidName, number_of, self.schema, self.tree, (("cn", "a"),) * 9)


class ManyTreesTests(Tests):
    """Names in trees by chance [7.3]."""

    def test_all_names_are_unlike(self):
        chance = random.Random(7)
        schema = sample_schema()
        found = 0
        for _ in range(400):
            tree = {}
            for number in range(1, chance.randrange(2, 12)):
                text = chance.choice(("Aa", "b", "C"))
                tree[number] = entry_of(schema, chance.choice((0, *tree)), ("cn", text), ("unit",), (("cn", text),))
            if is_tree(schema, tree):
                found += 1
                names = [name_of(tree, number) for number in tree]
                for number, name in zip(tree, names):
                    other = tuple([(word, " " + text.swapcase() + " ") for word, text in name])
                    self.assertEqual(number_of(schema, tree, other), number)
                    self.assertEqual(len(name), level(tree, number))
                self.assertEqual(len(set(names)), len(tree))
        self.assertGreater(found, 50)
