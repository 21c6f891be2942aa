"""Tests of bailiwick.place.groups."""

import random

from bailiwick.ask.filters import filter_text, read_filter, value_at
from bailiwick.errors import InvalidFilter, InvalidSchema, InvalidTree, ParseError, UnknownNumber
from bailiwick.place.groups import chosen, does_have, groups_of, inner, members
from bailiwick.rules.schemas import Schema
from bailiwick.tree.deeds import do_deed
from bailiwick.tree.links import removed
from bailiwick.tree.trees import does_stand_beneath
from tests.makers import asking_schema, some_item, some_tree
from tests.samples import Tests, entry, is_empty_dict, is_schema, never, sample_schema, sample_tree, wrong_values
from tests.test_links import is_one


def group(text, *values, above=0):
    """A group, its values told as pairs."""
    return entry(above, "label", text, ("group",), *[(word, str(value)) for word, value in values])


def linked(text, *numbers):
    """A group with links of member."""
    return group(text, *[("member", number) for number in numbers])


def plain_chosen(schema, tree, number):
    """What a group's own filters make members, told as the document tells it."""
    found = set()
    grounds = [int(form) for word, form, text in tree[number][3] if word == "ground"]
    for word, form, text in tree[number][3]:
        if word != "chosen":
            continue
        try:
            asked = read_filter(text)
        except (ParseError, InvalidFilter):
            continue
        for each in tree:
            is_there = not grounds or any(each == ground or does_stand_beneath(tree, each, ground) for ground in grounds)
            if "group" not in tree[each][2] and is_there and value_at(schema, tree, asked, each) == "true":
                found.add(each)
    return found


def plain_members(schema, tree):
    """The members of all groups: the least sets that hold, grown until nothing is new."""
    groups = [number for number in tree if "group" in tree[number][2]]
    sets = {number: set() for number in groups}
    is_new = True
    while is_new:
        is_new = False
        for number in groups:
            wider = plain_chosen(schema, tree, number)
            for word, form, text in tree[number][3]:
                if word == "member":
                    wider |= sets[int(form)] if int(form) in groups else {int(form)}
            is_new = is_new or wider != sets[number]
            sets[number] = wider
    return sets


def plain_inner(tree, number):
    """All groups that links of member reach from a group."""
    found, ahead = set(), [number]
    while ahead:
        for word, form, text in tree[ahead.pop()][3]:
            if word == "member" and "group" in tree[int(form)][2] and int(form) not in found:
                found.add(int(form))
                ahead.append(int(form))
    return found


class GroupTests(Tests):
    """Groups and their members [19.1, 19.2]."""

    def setUp(self):
        self.schema = sample_schema()

    def tree(self, **groups):
        """The sample tree with some groups, told as g50=.. and the like."""
        return {**sample_tree(), **{int(name[1:]): value for name, value in groups.items()}}

    def has(self, tree, told, schema=None):
        """Tests the members of all groups of a tree, and all that hangs on them."""
        schema = schema or self.schema
        groups = {number for number in tree if "group" in tree[number][2]}
        before = repr(tree)
        self.assertEqual(plain_members(schema, tree), {number: set(told.get(number, ())) for number in groups})
        for number in groups:
            found = members(schema, tree, number)
            self.assertEqual(found, tuple(sorted(told.get(number, ()))), number)
            self.assertEqual(chosen(schema, tree, number), tuple(sorted(plain_chosen(schema, tree, number))))
            self.assertEqual(inner(schema, tree, number), tuple(sorted(plain_inner(tree, number))))
            for value in [*tree, 0, 77]:
                self.assertIs(does_have(schema, tree, number, value), value in found)
        for number in tree:
            having = tuple([each for each in sorted(groups) if number in told.get(each, ())])
            self.assertEqual(groups_of(schema, tree, number), having)
        self.assertEqual(repr(tree), before)

    def test_links_to_entries(self):
        self.has(self.tree(g50=linked("g")), {})
        self.has(self.tree(g50=linked("g", 20, 10, 1)), {50: [1, 10, 20]})
        self.has(self.tree(g50=linked("g", 20, 10), g60=linked("h", 20)), {50: [10, 20], 60: [20]})
        # Links of other types make no members, nor do links of member of what is no group.
        tree = self.tree(g50=group("g", ("ground", 10), ("member", 5)))
        tree[5] = entry(0, "cn", "five", ("unit",), ("member", "1"))
        self.has(tree, {50: [5]})

    def test_links_to_groups(self):
        tree = self.tree(g50=linked("g", 60, 1), g60=linked("h", 70, 2), g70=linked("i", 5), g80=linked("j", 60, 5))
        self.has(tree, {50: [1, 2, 5], 60: [2, 5], 70: [5], 80: [2, 5]})
        self.assertEqual(inner(self.schema, tree, 50), (60, 70))
        self.assertEqual(inner(self.schema, tree, 70), ())

    def test_rings(self):
        # Within itself alone, a group has no members by that.
        self.has(self.tree(g50=linked("g", 50)), {50: []})
        self.has(self.tree(g50=linked("g", 50, 10)), {50: [10]})
        self.assertEqual(inner(self.schema, self.tree(g50=linked("g", 50)), 50), (50,))
        self.has(self.tree(g50=linked("g", 60), g60=linked("h", 50)), {})
        tree = self.tree(g50=linked("g", 60, 1), g60=linked("h", 70), g70=linked("i", 50, 80), g80=linked("j", 5))
        self.has(tree, {50: [1, 5], 60: [1, 5], 70: [1, 5], 80: [5]})
        self.assertEqual([inner(self.schema, tree, number) for number in (50, 60, 70, 80)], [(50, 60, 70, 80)] * 3 + [()])
        # A group beside a ring has what the ring has, and gives it nothing.
        tree[90] = linked("k", 60, 2)
        self.has(tree, {50: [1, 5], 60: [1, 5], 70: [1, 5], 80: [5], 90: [1, 2, 5]})
        tree[70] = group("i", ("member", 50), ("chosen", "(mail=*)"))
        self.has(tree, {50: [1, 10], 60: [1, 10], 70: [1, 10], 80: [5], 90: [1, 2, 10]})

    def test_filters(self):
        told = {"(cn=*)": [1, 2, 5, 10, 20, 30], "(:human)": [10, 20, 30], "(&(:human)(!(mail=*)))": [20, 30], "(#2)": [2, 10, 20, 30],
                "(|)": [], "(&)": [1, 2, 5, 10, 20, 30], "(label=*)": [], "(none=*)": [], "(mail=A\\*)": [], "(mail=A*)": [10],
                "(mark>=5)": [2], "(!(mark>=6))": [1, 2, 5, 10, 20, 30]}
        for text, numbers in told.items():
            self.has(self.tree(g50=group("g", ("chosen", text))), {50: numbers})
        # Each of several filters, besides links and other groups.
        tree = self.tree(g50=group("g", ("chosen", "(mail=*)"), ("chosen", "(mark=*)"), ("member", 60), ("member", 1)),
                         g60=group("h", ("chosen", "(age=*)"), ("member", 2)))
        self.has(tree, {50: [1, 2, 10, 30], 60: [2, 30]})
        self.assertEqual(chosen(self.schema, tree, 50), (2, 10))
        self.assertEqual(chosen(self.schema, tree, 60), (30,))

    def test_groups_are_no_members(self):
        # Filters that are true at groups make none of them members, themselves neither.
        tree = self.tree(g50=group("g", ("chosen", "(label=*)")), g60=group("h", ("chosen", "(:group)")))
        tree[70] = entry(0, "label", "s", ("share",))
        self.has(tree, {50: [70]})
        tree[70] = entry(0, "label", "s", ("group", "share"), ("member", "50"), ("member", "1"))
        self.has(tree, {50: [], 70: [1]})

    def test_texts_that_are_no_filters(self):
        for text in ("x", "(cn=*", "(cn=*)x", "(&(&(&(&(&(&(&)))))))", "(" + "a" * 13 + "=*)", "(#1000000000001)", " (cn=*)", "(cn=)",
                     "(cn=**)", "()", "(cn=\\x)", "(cn=*))", "(!)", "(&" + "(&)" * 32 + ")", "(#0)"):
            self.has(self.tree(g50=group("g", ("chosen", text))), {50: []})
            self.has(self.tree(g50=group("g", ("chosen", text), ("chosen", "(mail=*)"))), {50: [10]})

    def test_grounds(self):
        told = {1: [1, 2, 10, 20, 30], 2: [2, 10, 20, 30], 10: [10, 20], 20: [20], 5: [5]}
        for ground, numbers in told.items():
            self.has(self.tree(g50=group("g", ("chosen", "(cn=*)"), ("ground", ground))), {50: numbers})
        self.has(self.tree(g50=group("g", ("chosen", "(:human)"), ("ground", 10), ("member", 5))), {50: [5, 10, 20]})
        # At or beneath one of several; the ground can be a group, the group itself, too.
        self.has(self.tree(g50=group("g", ("chosen", "(cn=*)"), ("ground", 10), ("ground", 5))), {50: [5, 10, 20]})
        tree = self.tree(g50=group("g", ("chosen", "(cn=*)"), ("ground", 50)))
        self.has(tree, {})
        tree[60] = entry(50, "cn", "x", ("unit",))
        self.has(tree, {50: [60]})
        # Another group's ground does not matter.
        tree[70] = group("h", ("member", 50), ("ground", 5), ("chosen", "(cn=*)"))
        self.has(tree, {50: [60], 70: [5, 60]})

    def test_members_that_are_gone(self):
        tree = self.tree(g50=linked("g", 5, 30, 60), g60=linked("h", 5, 10))
        self.has(tree, {50: [5, 10, 30], 60: [5, 10]})
        tree = removed(self.schema, tree, 5)
        self.has(tree, {50: [10, 30], 60: [10]})
        tree = removed(self.schema, tree, 60)
        self.has(tree, {50: [30]})
        # A ground that is gone leaves the filter anywhere.
        tree[50] = group("g", ("chosen", "(:human)"), ("ground", 30))
        self.has(tree, {50: [30]})
        self.has(removed(self.schema, tree, 30), {50: [10, 20]})

    def test_values_as_the_tree_has_them(self):
        tree = self.tree(g50=group("g", ("chosen", "(mail=*)")))
        tree[20] = entry(10, "cn", "bob", ("human",), ("mail", "b"))
        self.has(tree, {50: [10, 20]})
        tree[10] = entry(2, "cn", "ann", ("human",))
        self.has(tree, {50: [20]})

    def test_moves(self):
        # [0.18]: a move changes no number and no link, so groups that name members by links keep them.
        tree = self.tree(g50=linked("g", 10, 60), g60=linked("h", 30, 2), g70=group("i", ("chosen", "(:human)"), ("ground", 2)))
        told = {50: [2, 10, 30], 60: [2, 30], 70: [10, 20, 30]}
        self.has(tree, told)
        for deed in (("move", 2, 5, ("cn", "zwei"), False), ("move", 60, 50, ("label", "x"), True), ("move", 50, 2, ("label", "y"), False)):
            word, tree = do_deed(self.schema, tree, deed)
            self.assertEqual(word, "done")
            self.has(tree, told)
        # What a filter asks of the place is told anew.
        word, tree = do_deed(self.schema, tree, ("move", 30, 1, ("cn", "cy"), True))
        self.has(tree, {**told, 70: [10, 20]})

    def test_does_have(self):
        tree = self.tree(g50=linked("g", 1, 5))
        self.answers_all(does_have, (self.schema, tree, 50))
        for value in wrong_values():
            is_it = isinstance(value, int) and not isinstance(value, bool) and value in (1, 5)
            self.assertIs(does_have(self.schema, tree, 50, value), is_it)
        self.assertIs(does_have(self.schema, tree, 50, True), False)
        self.assertIs(does_have(self.schema, tree, 50, 5), True)

    def test_many_trees(self):
        schema = asking_schema()
        for seed in range(30):
            rng = random.Random(f"groups {seed}")
            tree = some_tree(f"groups {seed}", schema, 14, 6)
            for number in rng.sample(sorted(tree), 6):
                above, naming, classes, values = tree[number]
                kept = [value for value in values if value[0] not in ("member", "ground", "chosen")]
                pairs = {("member", str(rng.choice(sorted(tree)))) for _ in range(rng.randrange(3))}
                pairs |= {("ground", str(rng.choice(sorted(tree)))) for _ in range(rng.choice((0, 0, 1)))}
                pairs |= {("chosen", filter_text(some_item(rng))) for _ in range(rng.choice((0, 1)))}
                told = [(word, text, text) for word, text in pairs if len(text) <= 100]
                tree[number] = (above, naming, ("group",), tuple(sorted([*kept, *told])))
            self.has(tree, plain_members(schema, tree), schema)

    def test_wrong_arguments(self):
        tree = self.tree(g50=linked("g", 1, 5))
        right = [(0, InvalidSchema, is_schema), (1, InvalidTree, is_empty_dict)]
        for call in (members, chosen, inner):
            self.refuses_each(call, [self.schema, tree, 50], [*right, (2, UnknownNumber, never)])
        self.refuses_each(groups_of, [self.schema, tree, 1], [*right, (2, UnknownNumber, is_one)])
        self.refuses_each(does_have, [self.schema, tree, 50, 1], [*right, (2, UnknownNumber, never)])
        for number in (0, 1, 77, True, "50", None):
            for call in (members, chosen, inner):
                self.assertIs(self.refuses(UnknownNumber, call, self.schema, tree, number).asked, number)
            self.assertIs(self.refuses(UnknownNumber, does_have, self.schema, tree, number, None).asked, number)
            if number != 1 or number is True:
                self.assertIs(self.refuses(UnknownNumber, groups_of, self.schema, tree, number).asked, number)
        loose = {50: linked("g", 77)}
        for call in (members, chosen, inner, groups_of):
            self.refuses(InvalidTree, call, self.schema, loose, 77)
        self.refuses(InvalidTree, members, Schema((), ()), tree, None)
