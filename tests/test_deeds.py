"""Tests of bailiwick.tree.deeds."""

import itertools
import random

from bailiwick.errors import InvalidDeed, InvalidSchema, InvalidTree, Refused
from bailiwick.rules.schemas import Schema
from bailiwick.tree.deeds import CODES, do_deed, is_deed, is_unit, move_back, touched
from bailiwick.tree.links import links_to
from bailiwick.tree.trees import entry_of, is_tree, level, name_of, upward
from tests.samples import (
    Tests, entry, is_empty_dict, is_schema, never, sample_schema, sample_tree, with_place, wrong_values,
)
from tests.test_trees import chain_tree, wide_tree

ADD = ("add", 7, 1, ("cn", "New"), ("unit",), (("cn", "New"),))
PART = ("put", "mail", "x")
CHANGE = ("change", 1, (PART,))
MOVE = ("move", 1, 0, ("cn", "New"), False)
REMOVE = ("remove", 1)


def is_right_number(value):
    """Whether a wrong value is a number all the same."""
    return value in (1, 10 ** 12) and not isinstance(value, bool)


def is_right_place(value):
    """Whether a wrong value is a number or 0 all the same."""
    return value in (0, 1, 10 ** 12) and not isinstance(value, bool)


def is_right_pair(value):
    """Whether a wrong value is a pair all the same."""
    return value in (("a", "b"), ("b", "a"), ("a", "a"))


def are_right_names(value):
    """Whether a wrong value is a tuple of words all the same."""
    return value in (("a",), ("a", "b"), ("b", "a"), ("a", "a"))


def are_right_texts(value):
    """Whether a wrong value is a tuple of texts all the same."""
    return value == () or are_right_names(value)


def is_right_text(value):
    """Whether a wrong value is a text all the same."""
    return isinstance(value, str) and 1 <= len(value) <= 100 and "\n" not in value


def is_right_word(value):
    """Whether a wrong value is a word all the same."""
    return value in ("a", "a" * 12)


def is_whole(value):
    """Whether a value is an integer."""
    return isinstance(value, int) and not isinstance(value, bool)


PLACES = (
    (ADD, (never, is_right_number, is_right_place, is_right_pair, are_right_names,
           lambda value: value in ((), (("a", "b"),)))),
    (CHANGE, (never, is_right_number, lambda value: value == ())),
    (MOVE, (never, is_right_number, is_right_place, is_right_pair, lambda value: isinstance(value, bool))),
    (REMOVE, (never, is_right_number)),
)
PART_PLACES = (
    (PART, (never, is_right_word, is_right_text)),
    (("drop", "mail", "x"), (never, is_right_word, is_right_text)),
    (("clear", "mail"), (never, is_right_word)),
    (("set", "mail", ("x",)), (never, is_right_word, are_right_texts)),
    (("raise", "mail", 4), (never, is_right_word, is_whole)),
    (("extras", ("vip",)), (never, lambda value: value == () or are_right_names(value))),
)


def wrong_parts():
    """Values that are no parts, each made of a part by one exchange."""
    found = [value for value in wrong_values()]
    for part, places in PART_PLACES:
        found += [part[:-1], (*part, "x"), list(part), (part[0].upper(), *part[1:])]
        for at, is_right in enumerate(places):
            found += [tuple(with_place(part, at, value)) for value in wrong_values() if not is_right(value)]
    return found


def wrong_deeds():
    """Values that are no deeds, each made of a deed by one exchange."""
    found = [value for value in wrong_values()]
    for deed, places in PLACES:
        found += [deed[:-1], (*deed, 1), list(deed), (deed[0].upper(), *deed[1:])]
        for at, is_right in enumerate(places):
            found += [tuple(with_place(deed, at, value)) for value in wrong_values() if not is_right(value)]
    found += [("change", 1, (part,)) for part in wrong_parts()]
    found += [("change", 1, [PART]), ("change", 0, (PART,)), ("remove", 0), ("move", 0, 1, ("cn", "a"), True)]
    found += [(*ADD[:4], (), ADD[5]), (*ADD[:4], ["unit"], ADD[5]), (*ADD[:5], [("cn", "a")]), (*ADD[:5], (["cn", "a"],)),
              (*ADD[:5], (("cn", "a", "a"),)), (*MOVE[:4], 0), (*MOVE[:4], 1), (*MOVE[:4], None), ("rename", 1)]
    return found


class FormTests(Tests):
    """What deeds and units are [0.13]."""

    def test_deeds(self):
        for deed in (ADD, CHANGE, MOVE, REMOVE, ("change", 1, ()), ("move", 1, 1, ("x", "y"), True), ("remove", 10 ** 12),
                     ("add", 10 ** 12, 10 ** 12, ("a" * 12, "x" * 100), ("b", "a", "b"), ()),
                     ("change", 1, tuple([part for part, places in PART_PLACES])),
                     ("change", 1, (("set", "x", ()), ("extras", ()), ("raise", "x", -(10 ** 19)), ("raise", "x", 0)))):
            self.assertIs(is_deed(deed), True, deed)
            self.assertIs(is_unit((deed,)), True, deed)

    def test_no_deeds(self):
        for value in wrong_deeds():
            self.assertIs(is_deed(value), False, value)
            self.assertIs(is_unit((value,)), False, value)
            self.assertIs(is_unit((REMOVE, value)), False, value)
        self.answers_all(is_deed)
        self.answers_all(is_unit)

    def test_a_hundred_members(self):
        for many, told in ((100, True), (101, False)):
            names = tuple(["a"] * many)
            self.assertIs(is_deed((*ADD[:4], names, ADD[5])), told)
            self.assertIs(is_deed((*ADD[:5], tuple([("cn", "x")] * many))), told)
            self.assertIs(is_deed(("change", 1, (PART,) * many)), told)
            self.assertIs(is_deed(("change", 1, (("set", "cn", names),))), told)
            self.assertIs(is_deed(("change", 1, (("extras", names),))), told)

    def test_units(self):
        self.assertIs(is_unit((REMOVE,)), True)
        self.assertIs(is_unit((REMOVE,) * 20), True)
        for value in ((), (REMOVE,) * 21, [REMOVE], REMOVE, (list(REMOVE),), ((REMOVE,),)):
            self.assertIs(is_unit(value), False)

    def test_codes(self):
        self.assertEqual(CODES, (
            "beneath", "class", "deep", "full", "kind", "link", "many", "naming", "range", "ring", "single", "taken",
            "unknown", "used", "word"))


class DoingTests(Tests):
    """Tests with a schema and a tree on which deeds are done."""

    def setUp(self):
        self.schema = sample_schema()
        self.tree = sample_tree()

    def done(self, deed, tree=None):
        """The tree behind a deed that is done; tests that it is one, and what else holds behind each deed."""
        tree = self.tree if tree is None else tree
        before = {number: tree[number] for number in tree}
        word, behind = do_deed(self.schema, tree, deed)
        self.assertEqual(word, "done", (deed, behind))
        self.assertEqual(list(tree.items()), list(before.items()))
        self.assertIsNot(behind, tree)
        self.assertEqual(list(behind), sorted(behind))
        self.assertTrue(is_tree(self.schema, behind))
        return behind

    def falls(self, code, deed, tree=None):
        """Tests that a deed falls with a code."""
        tree = self.tree if tree is None else tree
        before = {number: tree[number] for number in tree}
        self.assertEqual(do_deed(self.schema, tree, deed), ("fallen", code), deed)
        self.assertEqual(list(tree.items()), list(before.items()))
        self.assertEqual(self.refuses(Refused, touched, self.schema, tree, deed).reason, code)
        if deed[0] == "move":
            self.assertEqual(self.refuses(Refused, move_back, self.schema, tree, deed).reason, code)

    def fall_in_order(self, steps, tree=None):
        """Tests that of deeds, each of which mends one thing of the one ahead of it, each falls with the told code."""
        for code, deed in steps:
            if code is None:
                self.done(deed, tree)
            else:
                self.falls(code, deed, tree)


class AddTests(DoingTests):
    """Adding [9.2]."""

    def add(self, number=7, above=1, pair=("cn", "New"), classes=("unit",), pairs=(("cn", "New"),)):
        """An add, right but for what is told."""
        return ("add", number, above, pair, classes, pairs)

    def test_done(self):
        behind = self.done(self.add())
        self.assertEqual(behind, {**self.tree, 7: (1, ("cn", "new"), ("unit",), (("cn", "new", "New"),))})
        self.assertEqual(self.done(self.add(above=0), {}), {7: (0, ("cn", "new"), ("unit",), (("cn", "new", "New"),))})

    def test_example(self):
        schema = Schema((), ())
        told = [do_deed(schema, {}, ("remove", 3)),
                do_deed(schema, {}, ("add", 3, 0, ("label", "a"), ("group",), (("label", "a"), ("member", "4"))))]
        self.assertEqual(told, [("fallen", "unknown"), ("fallen", "link")])

    def test_any_order_and_alike_pairs(self):
        pairs = (("mail", "b"), ("cn", " NEW "), ("cn", "New"), ("mail", "a"), ("mail", "b"))
        behind = self.done(self.add(classes=("vip", "human", "vip"), pairs=pairs))
        self.assertEqual(behind[7], (1, ("cn", "new"), ("human", "vip"), (
            ("cn", "new", " NEW "), ("mail", "a", "a"), ("mail", "b", "b"))))

    def test_rules_are_not_asked(self):
        pairs = (("age", "1"), ("age", "2"), ("label", "q"), ("cn", "x"))
        behind = self.done(self.add(pair=("age", "1"), classes=("nowhere",), pairs=pairs))
        self.assertEqual(behind[7][:3], (1, ("age", "1"), ("nowhere",)))

    def test_codes(self):
        self.falls("used", self.add(number=20))
        self.falls("unknown", self.add(above=7))
        self.falls("unknown", self.add(above=10 ** 12))
        self.falls("word", self.add(pair=("x", "New")))
        self.falls("kind", self.add(pair=("age", "New")))
        self.falls("word", self.add(pairs=(("cn", "New"), ("x", "a"))))
        self.falls("kind", self.add(pairs=(("cn", "New"), ("age", "01"))))
        self.falls("naming", self.add(pairs=()))
        self.falls("naming", self.add(pairs=(("cn", "Other"), ("mail", "New"))))
        self.falls("naming", self.add(pair=("boss", "1"), pairs=(("boss", "1"),)))
        self.falls("taken", self.add(pair=("cn", " TWO"), pairs=(("cn", "two"),)))
        self.falls("link", self.add(pairs=(("cn", "New"), ("boss", "8"))))

    def test_not_taken_elsewhere(self):
        self.done(self.add(pair=("cn", "one"), pairs=(("cn", "one"),)))
        self.done(self.add(above=2, pair=("mail", "ann"), pairs=(("mail", "ann"),)))

    def test_links(self):
        behind = self.done(self.add(pairs=(("cn", "New"), ("boss", "7"), ("pal", "30"), ("to", "1"))))
        self.assertEqual(links_to(self.schema, behind, 7), ((7, "boss"),))
        self.falls("link", self.add(pairs=(("cn", "New"), ("boss", "7"), ("boss", "8"))))

    def test_full(self):
        self.done(self.add(number=60, above=0), wide_tree(59))
        self.falls("full", self.add(number=61, above=0), wide_tree(60))

    def test_deep(self):
        self.assertEqual(level(self.done(self.add(number=20, above=7), chain_tree(8)), 20), 8)
        self.falls("deep", self.add(number=20, above=8), chain_tree(8))

    def test_many(self):
        pairs = tuple([("mail", f"m{at}") for at in range(59)])
        self.done(self.add(pairs=(("cn", "New"), *pairs, *pairs[:40])))
        self.falls("many", self.add(pairs=(("cn", "New"), *pairs, ("mail", "M"))))

    def test_order_of_codes(self):
        many = tuple([("mail", f"m{at}") for at in range(60)])
        full = {**chain_tree(8), **{at: entry(0, "cn", f"n{at}", ("unit",)) for at in range(9, 61)}}
        self.fall_in_order([
            ("used", self.add(1, 77, ("x", "1"), pairs=(("x", "1"),))),
            ("unknown", self.add(99, 77, ("x", "1"), pairs=(("x", "1"),))),
            ("full", self.add(99, 8, ("x", "1"), pairs=(("x", "1"),))),
        ], full)
        del full[60]
        self.fall_in_order([
            ("deep", self.add(99, 8, ("x", "1"), pairs=(("age", "z"), ("x", "1")))),
            ("word", self.add(99, 0, ("x", "1"), pairs=(("age", "z"), ("x", "1")))),
            ("kind", self.add(99, 0, ("age", "z"), pairs=(("x", "1"), ("ok", "z")))),
            ("word", self.add(99, 0, ("cn", "a"), pairs=(("x", "1"), ("ok", "z")))),
            ("kind", self.add(99, 0, ("cn", "a"), pairs=(("ok", "z"), ("x", "1"), *many))),
            ("word", self.add(99, 0, ("cn", "a"), pairs=(("boss", "77"), *many, ("x", "1")))),
            ("many", self.add(99, 0, ("cn", "a"), pairs=(("boss", "77"), *many))),
            ("naming", self.add(99, 0, ("cn", "a"), pairs=(("boss", "77"), *many[:59]))),
            ("naming", self.add(99, 0, ("boss", "77"), pairs=(("boss", "77"),))),
            ("taken", self.add(99, 0, ("cn", "A"), pairs=(("boss", "77"), ("cn", "a")))),
            ("link", self.add(99, 0, ("cn", "b"), pairs=(("boss", "77"), ("cn", "b")))),
            (None, self.add(99, 0, ("cn", "b"), pairs=(("boss", "9"), ("cn", "b")))),
        ], full)


class ChangeTests(DoingTests):
    """Changing [9.3]."""

    def values(self, number, *parts, tree=None):
        """The values of an entry behind a change that is done."""
        before = self.tree if tree is None else tree
        behind = self.done(("change", number, parts), tree)
        self.assertEqual(behind, {**before, number: behind[number]})
        self.assertEqual(behind[number][:3], before[number][:3])
        return behind[number][3]

    def test_nothing(self):
        self.assertEqual(self.values(10), self.tree[10][3])

    def test_put(self):
        self.assertEqual(self.values(1, ("put", "cn", " X  y")), (("cn", "one", "one"), ("cn", "x y", " X  y")))
        self.assertEqual(self.values(10, ("put", "cn", "ANN")), self.tree[10][3])
        self.assertEqual(self.values(10, ("put", "mail", "a@x"))[1:], (("mail", "A@x", "A@x"), ("mail", "a@x", "a@x")))
        self.assertEqual(self.values(1, ("put", "nick", "One")), (("cn", "one", "one"), ("nick", "one", "One")))

    def test_drop(self):
        self.assertEqual(self.values(20, ("drop", "pet", "REX")),
                         (("boss", "10", "10"), ("cn", "bob b", "Bob  B"), ("pal", "10", "10")))
        self.assertEqual(self.values(20, ("drop", "nick", "rex")), self.tree[20][3])
        self.assertEqual(self.values(20, ("drop", "pet", "max")), self.tree[20][3])
        self.falls("naming", ("change", 20, (("drop", "cn", "bob B"),)))

    def test_clear(self):
        # The type itself, and none beneath it.
        self.assertEqual(self.values(20, ("clear", "boss")),
                         (("cn", "bob b", "Bob  B"), ("pal", "10", "10"), ("pet", "rex", "Rex")))
        self.assertEqual(self.values(20, ("clear", "nick")), self.tree[20][3])
        two = self.values(1, ("put", "mail", "a"), ("put", "mail", "b"), ("clear", "mail"))
        self.assertEqual(two, self.tree[1][3])
        self.falls("naming", ("change", 20, (("clear", "cn"),)))

    def test_set(self):
        told = self.values(20, ("set", "pet", ("A", "b", "a", "B")))
        self.assertEqual(told[3:], (("pet", "a", "A"), ("pet", "b", "b")))
        self.assertEqual(self.values(20, ("set", "pet", ()))[3:], ())
        self.assertEqual(self.values(20, ("set", "pet", ("REX",)))[3:], (("pet", "rex", "REX"),))
        self.assertEqual(self.values(10, ("set", "cn", ("aNN", "b"))), (
            ("cn", "ann", "aNN"), ("cn", "b", "b"), ("mail", "A@x", "A@x")))

    def test_raise(self):
        self.assertEqual(self.values(30, ("raise", "age", 5))[0], ("age", "12", "12"))
        self.assertEqual(self.values(30, ("raise", "age", -7))[0], ("age", "0", "0"))
        self.assertEqual(self.values(30, ("raise", "age", -8))[0], ("age", "-1", "-1"))
        self.assertEqual(self.values(30, ("raise", "age", 0)), self.tree[30][3])
        most = 10 ** 15
        self.assertEqual(self.values(30, ("raise", "age", most - 7))[0], ("age", str(most), str(most)))
        self.assertEqual(self.values(30, ("raise", "age", -most - 7))[0], ("age", str(-most), str(-most)))
        for by in (most - 6, -most - 8, 10 ** 19, -(10 ** 19)):
            self.falls("range", ("change", 30, (("raise", "age", by),)))

    def test_extras(self):
        for number, names, classes in [
            (20, (), ("human",)), (20, ("vip",), ("human", "vip")), (20, ("star", "apart", "star"), ("apart", "human", "star")),
            (1, ("top",), ("top", "unit")), (30, ("moon", "vip"), ("moon", "vip", "worker")),
        ]:
            behind = self.done(("change", number, (("extras", names),)))
            self.assertEqual(behind[number], (*self.tree[number][:2], classes, self.tree[number][3]))
        odd = {1: entry(0, "cn", "a", ("nowhere", "thing", "unit", "vip"))}
        behind = self.done(("change", 1, (("extras", ("star",)),)), odd)
        self.assertEqual(behind[1][2], ("nowhere", "star", "thing", "unit"))

    def test_parts_are_done_one_after_another(self):
        self.assertEqual(self.values(30, ("clear", "age"), ("put", "age", "4"), ("raise", "age", 1))[0], ("age", "5", "5"))
        self.assertEqual(self.values(1, ("drop", "cn", "one"), ("put", "cn", "ONE")), (("cn", "one", "ONE"),))
        self.falls("single", ("change", 30, (("put", "age", "4"), ("raise", "age", 1))))
        pairs = [("put", "mail", f"m{at}") for at in range(80)]
        self.assertEqual(self.values(1, *pairs, ("clear", "mail")), self.tree[1][3])
        behind = self.done(("change", 1, (("extras", ("vip",)), ("extras", ("star",)))))
        self.assertEqual(behind[1][2], ("star", "unit"))
        self.assertEqual(self.values(1, ("put", "boss", "99"), ("drop", "boss", "99")), self.tree[1][3])

    def test_codes(self):
        self.falls("unknown", ("change", 7, ()))
        for part in (("put", "x", "a"), ("drop", "x", "a"), ("clear", "x"), ("set", "x", ()), ("set", "x", ("a",)), ("raise", "x", 1)):
            self.falls("word", ("change", 1, (part,)))
        for part in (("put", "age", "a"), ("drop", "age", "a"), ("set", "age", ("1", "a")), ("put", "cn", " "), ("set", "ok", ("Yes",))):
            self.falls("kind", ("change", 1, (part,)))
        for word in ("age", "mark", "mail", "nick"):
            self.falls("single", ("change", 1, (("raise", word, 1),)))
        self.falls("kind", ("change", 1, (("raise", "cn", 1),)))
        self.falls("kind", ("change", 20, (("raise", "boss", 1),)))
        for names in (("x",), ("unit",), ("thing",), ("group",), ("vip", "x")):
            self.falls("class", ("change", 1, (("extras", names),)))
        self.falls("class", ("change", 1, (("extras", ()),)), {1: entry(0, "cn", "a", ("apart", "vip"))})
        self.falls("naming", ("change", 1, (("clear", "cn"),)))
        self.falls("naming", ("change", 1, (("set", "cn", ("two",)),)))
        self.falls("naming", ("change", 1, (("raise", "mark", 1),)), {1: entry(0, "mark", "4", ("unit",))})
        self.falls("link", ("change", 1, (("put", "boss", "7"),)))
        self.falls("link", ("change", 1, (("set", "pal", ("1", "7")),)))

    def test_raising_the_naming_value_by_nothing(self):
        tree = {1: entry(0, "mark", "4", ("unit",))}
        self.assertEqual(self.values(1, ("raise", "mark", 0), tree=tree), (("mark", "4", "4"),))

    def test_many(self):
        puts = tuple([("put", "mail", f"m{at}") for at in range(59)])
        self.done(("change", 1, puts))
        self.falls("many", ("change", 1, (*puts, ("put", "mail", "M"))))
        self.falls("many", ("change", 1, (("set", "mail", tuple([f"m{at}" for at in range(60)])),)))

    def test_order_of_codes(self):
        texts = tuple([f"m{at}" for at in range(60)])
        two = {1: entry(0, "cn", "a", ("unit",), ("mark", "1"), ("mark", "2"), ("mail", "q"), ("mail", "r"))}
        self.fall_in_order([
            ("unknown", ("change", 7, (("put", "x", "a"),))),
            ("word", ("change", 1, (("put", "x", "a"), ("put", "age", "a")))),
            ("kind", ("change", 1, (("put", "age", "a"), ("put", "x", "a")))),
            ("class", ("change", 1, (("extras", ("x",)), ("put", "x", "a")))),
            ("word", ("change", 1, (("put", "x", "a"), ("extras", ("x",))))),
            ("word", ("change", 1, (("clear", "cn"), ("put", "x", "a")))),
            ("kind", ("change", 1, (("set", "ok", ("yes", "Yes")), ("set", "x", ())))),
            ("single", ("change", 1, (("raise", "mail", 10 ** 16),))),
            ("single", ("change", 1, (("raise", "mark", 10 ** 16),))),
            ("kind", ("change", 1, (("raise", "cn", 10 ** 16),))),
            ("many", ("change", 1, (("set", "mail", texts), ("clear", "cn"), ("put", "boss", "7")))),
            ("naming", ("change", 1, (("set", "mail", texts[:50]), ("clear", "cn"), ("put", "boss", "7")))),
            ("link", ("change", 1, (("set", "mail", texts[:50]), ("put", "boss", "7")))),
            (None, ("change", 1, (("set", "mail", texts[:50]), ("put", "boss", "1")))),
        ], two)


class MoveTests(DoingTests):
    """Moving [9.4], [0.18]."""

    def test_done(self):
        behind = self.done(("move", 20, 2, ("cn", "Bob"), False))
        self.assertEqual(behind, {**self.tree, 20: (2, ("cn", "bob"), ("human", "vip"), (
            ("boss", "10", "10"), ("cn", "bob", "Bob"), ("pal", "10", "10"), ("pet", "rex", "Rex")))})
        behind = self.done(("move", 20, 2, ("cn", "Bob"), True))
        self.assertEqual(behind[20][3][1:3], (("cn", "bob", "Bob"), ("cn", "bob b", "Bob  B")))
        behind = self.done(("move", 10, 5, ("mail", "A@x"), False))
        self.assertEqual(behind[10], (5, ("mail", "A@x"), ("human",), (("mail", "A@x", "A@x"),)))
        behind = self.done(("move", 10, 5, ("mail", "A@x"), True))
        self.assertEqual(behind[10], (5, ("mail", "A@x"), *self.tree[10][2:]))

    def test_the_same_and_alike_namings(self):
        for keep in (True, False):
            self.assertEqual(self.done(("move", 10, 2, ("cn", "ANN"), keep)), self.tree)
            behind = self.done(("move", 10, 5, ("cn", " ann "), keep))
            self.assertEqual(behind, {**self.tree, 10: (5, *self.tree[10][1:])})

    def test_to_the_root_and_right_beneath_the_same(self):
        self.assertEqual(self.done(("move", 2, 0, ("cn", "two"), False))[2], (0, *self.tree[2][1:]))
        self.assertEqual(name_of(self.done(("move", 20, 0, ("cn", "q"), False)), 20), (("cn", "q"),))
        self.assertEqual(self.done(("move", 30, 2, ("cn", "q"), False))[30][:2], (2, ("cn", "q")))

    def test_everything_beneath_and_every_link_come_along(self):
        behind = self.done(("move", 2, 5, ("cn", "zwei"), False))
        self.assertEqual([upward(behind, number) for number in (2, 10, 20, 30)], [(2, 5), (10, 2, 5), (20, 10, 2, 5), (30, 2, 5)])
        self.assertEqual(sorted(behind), sorted(self.tree))
        for number in self.tree:
            self.assertEqual(links_to(self.schema, behind, number), links_to(self.schema, self.tree, number))
            if number != 2:
                self.assertEqual(behind[number], self.tree[number])

    def test_codes(self):
        self.falls("unknown", ("move", 7, 0, ("cn", "a"), False))
        self.falls("unknown", ("move", 1, 7, ("cn", "a"), False))
        for above in (2, 10, 20, 30):
            self.falls("ring", ("move", 2, above, ("cn", "a"), False))
        self.falls("word", ("move", 2, 0, ("x", "a"), False))
        self.falls("kind", ("move", 2, 0, ("age", "a"), False))
        self.falls("naming", ("move", 20, 0, ("boss", "10"), False))
        self.falls("taken", ("move", 2, 0, ("cn", "ONE"), False))
        self.falls("taken", ("move", 5, 0, ("cn", "one"), True))

    def test_deep(self):
        tree = {**chain_tree(5), 11: entry(0, "cn", "b", ("unit",)), 12: entry(11, "cn", "b", ("unit",)),
                13: entry(12, "cn", "b", ("unit",)), 14: entry(11, "cn", "c", ("unit",))}
        self.assertEqual(level(self.done(("move", 11, 5, ("cn", "b"), False), tree), 13), 8)
        tree[15] = entry(13, "cn", "b", ("unit",))
        self.falls("deep", ("move", 11, 5, ("cn", "b"), False), tree)
        self.done(("move", 11, 4, ("cn", "b"), False), tree)
        leaf = {**chain_tree(7), 10: entry(0, "cn", "b", ("unit",))}
        self.assertEqual(level(self.done(("move", 10, 7, ("cn", "b"), False), leaf), 10), 8)
        self.falls("deep", ("move", 10, 8, ("cn", "b"), False), {**chain_tree(8), 10: entry(0, "cn", "b", ("unit",))})

    def test_many(self):
        full = {1: entry(0, "cn", "a", ("unit",), *[("mail", f"m{at}") for at in range(59)])}
        self.falls("many", ("move", 1, 0, ("cn", "b"), True), full)
        self.done(("move", 1, 0, ("cn", "b"), False), full)
        self.done(("move", 1, 0, ("cn", "A"), True), full)
        self.done(("move", 1, 0, ("mail", "m5"), True), full)

    def test_order_of_codes(self):
        full = [("mail", f"m{at}") for at in range(59)]
        tree = {**chain_tree(8), 20: entry(0, "cn", "b", ("unit",), *full), 21: entry(20, "cn", "c", ("unit",)),
                22: entry(7, "cn", "d", ("unit",)), 23: entry(6, "cn", "d", ("unit",))}
        self.fall_in_order([
            ("unknown", ("move", 99, 99, ("x", "a"), True)),
            ("unknown", ("move", 99, 21, ("x", "a"), True)),
            ("unknown", ("move", 20, 99, ("x", "a"), True)),
            ("ring", ("move", 20, 21, ("x", "a"), True)),
            ("ring", ("move", 1, 8, ("x", "a"), True)),
            ("deep", ("move", 20, 7, ("x", "a"), True)),
            ("deep", ("move", 20, 7, ("cn", "d"), True)),
            ("word", ("move", 20, 6, ("x", "a"), True)),
            ("kind", ("move", 20, 6, ("boss", "a"), True)),
            ("naming", ("move", 20, 6, ("boss", "99"), True)),
            ("taken", ("move", 20, 6, ("cn", "D"), True)),
            ("many", ("move", 20, 6, ("cn", "e"), True)),
            (None, ("move", 20, 6, ("cn", "e"), False)),
        ], tree)


class RemoveTests(DoingTests):
    """Removing [9.5]."""

    def test_done(self):
        tree = {**self.tree, 31: entry(0, "cn", "z", ("human",), ("boss", "30"), ("boss", "31"), ("mail", "30"), ("mark", "30"))}
        behind = self.done(("remove", 30), tree)
        self.assertEqual(sorted(behind), [1, 2, 5, 10, 20, 31])
        self.assertEqual(behind[31], entry(0, "cn", "z", ("human",), ("boss", "31"), ("mail", "30"), ("mark", "30")))
        self.assertEqual(self.done(("remove", 20))[30], entry(2, "cn", "cy", ("worker",), ("age", "7"), ("pal", "30")))
        self.assertEqual(self.done(("remove", 1), {1: entry(0, "cn", "a", ("x",), ("to", "1"))}), {})

    def test_codes(self):
        self.falls("unknown", ("remove", 7))
        for number in (1, 2, 10):
            self.falls("beneath", ("remove", number))


class TouchedTests(DoingTests):
    """The entries whose rules a deed can break."""

    def test_touched(self):
        tree = {**self.tree, 4: entry(0, "cn", "z", ("human",), ("boss", "30"), ("pal", "30"))}
        for deed, told in [
            (ADD, (7,)), (CHANGE, (1,)), (MOVE, (1,)), (("change", 20, ()), (20,)), (("move", 2, 5, ("cn", "two"), True), (2,)),
            (("remove", 5), ()), (("remove", 20), (30,)), (("remove", 30), (4,)),
        ]:
            self.assertEqual(touched(self.schema, tree, deed), told)

    def test_wrong_arguments(self):
        for call in (do_deed, touched, move_back):
            self.refuses_each(call, [self.schema, self.tree, MOVE], [
                (0, InvalidSchema, is_schema), (1, InvalidTree, is_empty_dict), (2, InvalidDeed, never)])
            for value in wrong_deeds():
                self.refuses(InvalidDeed, call, self.schema, self.tree, value)
        loose = {1: entry(0, "cn", "a", ("unit",), ("boss", "2"))}
        for wrong in (loose, chain_tree(9), wide_tree(61)):
            self.refuses(InvalidTree, do_deed, self.schema, wrong, REMOVE)


class MoveBackTests(DoingTests):
    """The move back [9.6], [0.18]."""

    def test_moves_back(self):
        for deed, told in [
            (("move", 20, 2, ("cn", "Bob"), False), ("move", 20, 10, ("cn", "Bob  B"), False)),
            (("move", 20, 2, ("cn", "Bob"), True), ("move", 20, 10, ("cn", "Bob  B"), False)),
            (("move", 20, 2, ("cn", "BOB B"), False), ("move", 20, 10, ("cn", "Bob  B"), True)),
            (("move", 10, 5, ("mail", "A@x"), False), ("move", 10, 2, ("cn", "Ann"), True)),
            (("move", 10, 0, ("mail", "a@x"), True), ("move", 10, 2, ("cn", "Ann"), False)),
            (("move", 2, 0, ("cn", "two"), True), ("move", 2, 1, ("cn", "two"), True)),
        ]:
            self.assertEqual(move_back(self.schema, self.tree, deed), told)
            self.assertEqual(self.done(told, self.done(deed)), self.tree)

    def test_no_moves(self):
        for deed in (ADD, CHANGE, REMOVE, ("remove", 77)):
            self.refuses(InvalidDeed, move_back, self.schema, self.tree, deed)

    def test_by_chance(self):
        chance = random.Random(9)
        done = 0
        for _ in range(4000):
            deed = ("move", chance.choice(list(self.tree)), chance.choice((0, *self.tree)),
                    (chance.choice(("cn", "mail", "nick")), chance.choice(("One", "ANN", "A@x", " bob  B", "Rex", "q"))),
                    chance.choice((True, False)))
            word, behind = do_deed(self.schema, self.tree, deed)
            if word == "done":
                done += 1
                back = move_back(self.schema, self.tree, deed)
                self.assertTrue(is_deed(back))
                self.assertEqual(self.done(back, behind), self.tree)
                if chance.random() < 0.3:
                    self.tree = behind
        self.assertGreater(done, 1000)


def plain_do(schema, tree, deed):
    """What a change, a move or an add makes, by making the entry anew; for deeds without links."""
    number = deed[1]
    if deed[0] == "add":
        above, pair, classes, pairs = deed[2:]
    elif deed[0] == "move":
        above, pair, classes = deed[2], deed[3], tree[number][2]
        elder = tree[number][1]
        form = entry_of(schema, above, pair, classes, (pair,))[1]
        pairs = tuple([(word, text) for word, shown, text in tree[number][3] if deed[4] or (word, shown) != elder or form == elder])
        pairs = (*pairs, pair)
    return {**tree, number: entry_of(schema, above, pair, classes, pairs)}


class ManyDeedsTests(DoingTests):
    """Deeds by chance: a deed is done as the entry is made anew, or falls with a known code."""

    def test_by_chance(self):
        chance = random.Random(10)
        told = set()
        texts = ("One", "ANN", "a@x", "q", "5", " ", "yes")
        for _ in range(6000):
            pair = (chance.choice(("cn", "mail", "age", "nick", "x")), chance.choice(texts))
            more = tuple([(chance.choice(("cn", "mail", "age")), chance.choice(texts)) for _ in range(chance.randrange(3))])
            deed = chance.choice((
                ("add", chance.choice((3, 4, 6, 20)), chance.choice((0, 4, *self.tree)), pair, ("unit",),
                 (*more, pair) if chance.random() < 0.8 else more),
                ("move", chance.choice((4, *self.tree)), chance.choice((0, 4, *self.tree)), pair, chance.random() < 0.5),
                ("remove", chance.choice((4, *self.tree))),
            ))
            word, behind = do_deed(self.schema, self.tree, deed)
            if word == "fallen":
                self.falls(behind, deed)
                told.add(behind)
                continue
            if deed[0] != "remove":
                self.assertEqual(behind, plain_do(self.schema, self.tree, deed))
            self.assertTrue(is_tree(self.schema, behind))
            if chance.random() < 0.2:
                self.tree = behind if len(behind) > 3 else sample_tree()
        self.assertEqual(told, {"used", "unknown", "word", "kind", "naming", "taken", "ring", "beneath"})

    def test_pairs_of_parts(self):
        parts = [("put", "mail", "a"), ("put", "mail", "A"), ("drop", "mail", "a"), ("clear", "mail"), ("set", "mail", ("b", "a")),
                 ("put", "cn", "ONE"), ("drop", "cn", "One"), ("raise", "mark", 2), ("put", "mark", "7"), ("extras", ("vip",))]
        for two in itertools.product(parts, repeat=2):
            whole = do_deed(self.schema, self.tree, ("change", 2, two))
            first = do_deed(self.schema, self.tree, ("change", 2, two[:1]))
            if first[0] == "done":
                self.assertEqual(whole, do_deed(self.schema, first[1], ("change", 2, two[1:])), two)
