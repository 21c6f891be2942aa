"""Tests of bailiwick.place.views."""

import random

from bailiwick.errors import InvalidDeed, InvalidOperation, InvalidSchema, InvalidTree, UnknownNumber
from bailiwick.place.rights import is_granted
from bailiwick.place.shares import shown
from bailiwick.place.views import done_by, is_seen, needed, view
from bailiwick.rules.judge import is_right
from bailiwick.tree.trees import is_tree
from bailiwick.tree.units import do_unit
from tests.rulers import (
    grants, plain_done_by, plain_needed, plain_seen, plain_view, rule, ruling_schema, some_deed, some_ruled_tree, somebody,
)
from tests.samples import Tests, entry, is_empty_dict, is_schema, never, wrong_values
from tests.test_deeds import wrong_deeds
from tests.test_rights import ANYONE, RIGHTS, SEE, is_somebody
from tests.test_links import is_one

ALL = [("may", right) for right in RIGHTS]


def are_numbers(value):
    """Whether a wrong value is a tuple of numbers all the same."""
    return isinstance(value, tuple) and all(isinstance(each, int) and not isinstance(each, bool) and 0 < each < 10 ** 13 for each in value)


def bars(above, text, what, *values, right="see", rank=5):
    """A rule that bars a right for everybody."""
    return rule(above, text, ("rank", rank), ("may", right), ("what", what), ANYONE, *values)


class ViewTests(Tests):
    """Tests with a schema and a right tree in which everybody may do everything, and on what rules bar."""

    def setUp(self):
        self.schema = ruling_schema()

    def tree(self, *rules, **more):
        """Units 1 (2 (humans 3 (4) and 5)) and 6, a share 7, a rule 9 that grants all, and some rules from 50 on."""
        tree = {
            1: entry(0, "cn", "one", ("unit",), ("mark", "5")),
            2: entry(1, "cn", "two", ("unit",), ("mail", "m2")),
            3: entry(2, "cn", "ann", ("human",), ("mail", "m3"), ("boss", "5"), ("pal", "4"), ("nick", "an")),
            4: entry(3, "cn", "bob", ("human", "vip"), ("code", "c4"), ("boss", "3"), ("boss", "1")),
            5: entry(2, "cn", "cy", ("human",)),
            6: entry(0, "cn", "six", ("unit",)),
            7: entry(2, "label", "s", ("share",), ("mail", "shared"), ("pal", "6")),
            9: grants(0, "all", 1, *ALL, ANYONE),
        }
        tree.update({50 + at: each for at, each in enumerate(rules)})
        tree.update({int(name[1:]): value for name, value in more.items()})
        return {number: tree[number] for number in sorted(tree)}

    def sees(self, tree, who, *hidden):
        """Tests that somebody sees all entries but some, and returns its view."""
        before = repr(tree)
        found = view(self.schema, tree, who)
        self.assertEqual(sorted(set(tree) - set(found)), sorted(hidden))
        self.assertEqual(found, plain_view(self.schema, tree, who))
        self.assertEqual(list(found), sorted(found))
        self.assertTrue(is_tree(self.schema, found))
        for number in tree:
            self.assertIs(is_seen(self.schema, tree, who, number), number in found)
        self.assertEqual(repr(tree), before)
        return found

    def lacks(self, tree, who, number, *values):
        """Tests which values of the shown tree an entry lacks in a view."""
        found = view(self.schema, tree, who)
        whole = shown(self.schema, tree)
        self.assertEqual(found, plain_view(self.schema, tree, who))
        self.assertEqual(found[number][:3], whole[number][:3])
        left = [value[:2] for value in whole[number][3] if value not in found[number][3]]
        self.assertEqual(sorted(left), sorted(values))
        self.assertEqual(found[number][3], tuple([value for value in whole[number][3] if value[:2] not in values]))


class SeeTests(ViewTests):
    """What somebody sees [21.1]."""

    def test_everything(self):
        tree = self.tree()
        self.assertTrue(is_right(self.schema, tree))
        for who in (0, None, *tree):
            self.assertEqual(self.sees(tree, who), shown(self.schema, tree))
        self.assertIn(("mail", "shared", "shared"), view(self.schema, tree, None)[5][3])
        for who in (0, None):
            self.assertEqual(view(self.schema, {}, who), {})

    def test_nothing(self):
        tree = self.tree()
        del tree[9]
        for who in (None, *tree):
            self.assertEqual(self.sees(tree, who, *tree), {})
        self.assertEqual(self.sees(tree, 0), shown(self.schema, tree))

    def test_entries(self):
        self.sees(self.tree(bars(6, "x", "entry")), None, 6, 50)
        self.sees(self.tree(bars(6, "x", "entry")), 0)
        # What stands beneath an entry that is not seen is not seen either, though it is granted.
        tree = self.tree(bars(2, "x", "entry", ("most", 0)))
        self.assertIs(is_granted(self.schema, tree, 5, "see", 3), True)
        self.sees(tree, 5, 2, 3, 4, 5, 7, 50)
        self.sees(self.tree(bars(3, "x", "entry", ("most", 0))), 4, 3, 4, 50)
        self.sees(self.tree(bars(3, "x", "entry", ("least", 1))), None, 4, 50)
        self.sees(self.tree(bars(0, "x", "entry", ("of", "human"))), 3, 3, 4, 5)
        # The root is seen, whatever a rule says of it.
        self.sees(self.tree(bars(0, "x", "all", ("most", 0))), None)
        # To bar its types is not to bar the entry.
        self.sees(self.tree(bars(0, "x", "cn"), bars(0, "y", "label")), None)

    def test_for_whom(self):
        tree = self.tree(rule(0, "x", ("rank", 5), SEE, ("what", "entry"), ("whom", 3), ("of", "human")))
        self.sees(tree, 3, 3, 4, 5)
        self.sees(tree, 5)
        self.sees(tree, None)
        # Somebody need not see itself; a rule with self lets it see itself alone.
        lets = grants(0, "y", 7, SEE, ("who", "self"))
        tree = self.tree(bars(2, "x", "entry", ("least", 1)), lets)
        self.sees(tree, 5, 3, 4, 7, 50)
        self.sees(tree, 4, 3, 4, 5, 7, 50)
        self.sees(tree, 3, 4, 5, 7, 50)
        self.sees(tree, 6, 3, 4, 5, 7, 50)

    def test_values(self):
        self.lacks(self.tree(), None, 3)
        self.lacks(self.tree(bars(0, "x", "mail")), None, 3, ("mail", "m3"), ("mail", "shared"))
        self.lacks(self.tree(bars(0, "x", "mail")), 0, 3)
        self.lacks(self.tree(bars(0, "x", "boss")), None, 3, ("boss", "5"), ("pal", "4"), ("pal", "6"))
        self.lacks(self.tree(bars(0, "x", "pal")), None, 3, ("pal", "4"), ("pal", "6"))
        self.lacks(self.tree(bars(0, "x", "nick")), None, 3, ("nick", "an"))
        # Rules speak of the type at the entry itself.
        self.lacks(self.tree(bars(3, "x", "mail", ("most", 0))), None, 3, ("mail", "m3"), ("mail", "shared"))
        self.lacks(self.tree(bars(3, "x", "mail", ("least", 1))), None, 3)
        self.lacks(self.tree(bars(0, "x", "entry", ("of", "unit"))), 0, 3)
        # The naming value is always there, other values of its type are not.
        tree = self.tree(bars(0, "x", "cn"))
        tree[5] = entry(2, "cn", "cy", ("human",), ("cn", "other"), ("nick", "n"))
        self.lacks(tree, None, 5, ("cn", "other"), ("nick", "n"))
        self.lacks(tree, None, 3, ("nick", "an"))
        tree = self.tree(bars(0, "x", "all", ("of", "human")), grants(0, "y", 6, SEE, ("what", "entry"), ANYONE))
        tree[51] = rule(0, "y", ("rank", 6), ("grants", "yes"), SEE, ("what", "entry"), ANYONE)
        self.lacks(tree, None, 3, ("boss", "5"), ("pal", "4"), ("pal", "6"), ("nick", "an"), ("mail", "m3"), ("mail", "shared"))

    def test_links(self):
        # Links alone that lead to an entry that is seen, shared ones too; the types need not be barred.
        tree = self.tree(bars(6, "x", "entry"))
        self.lacks(tree, None, 3, ("pal", "6"))
        self.lacks(tree, 0, 3)
        self.lacks(tree, None, 7, ("pal", "6"))
        tree = self.tree(bars(3, "x", "entry", ("least", 1)))
        self.lacks(tree, 4, 3, ("pal", "4"))
        tree = self.tree(rule(0, "x", ("rank", 5), SEE, ("what", "entry"), ANYONE, ("of", "human")))
        for number in (1, 2, 6):
            self.lacks(tree, None, number)
        # Links of the house's own types likewise.
        tree = self.tree(bars(6, "x", "entry"), e60=entry(0, "label", "g", ("group",), ("member", "6"), ("member", "5")))
        self.lacks(tree, None, 60, ("member", "6"))
        # Numbers in other types stay.
        tree[5] = entry(2, "cn", "cy", ("human",), ("mark", "6"), ("mail", "6"))
        self.lacks(tree, None, 5, ("pal", "6"))

    def test_a_view_need_not_be_right(self):
        # [0.23]: what an entry must bear can be hidden, and so can the entry to which a link must lead.
        tree = self.tree(bars(0, "x", "code"))
        self.assertTrue(is_right(self.schema, tree))
        self.assertFalse(is_right(self.schema, view(self.schema, tree, None)))
        tree = self.tree(e60=entry(0, "label", "a", ("alias",), ("to", "6")))
        self.assertTrue(is_right(self.schema, tree))
        tree = self.tree(bars(6, "x", "entry"), e60=entry(0, "label", "a", ("alias",), ("to", "6")))
        self.assertFalse(is_right(self.schema, view(self.schema, tree, None)))

    def test_rights_are_read_from_the_whole_tree(self):
        # Neither what is hidden nor what is shared changes rights.
        tree = self.tree(bars(0, "x", "all", ("of", "rule")), bars(0, "y", "entry", ("of", "unit"), ("whom", 3)))
        self.sees(tree, None, 1, 2, 3, 4, 5, 6, 7, 9, 50, 51)
        share = entry(0, "label", "t", ("share",), ("mail", "all"))
        group = entry(0, "label", "g", ("group",), ("chosen", "(mail=all)"))
        tree = self.tree(rule(0, "x", ("rank", 5), SEE, ("what", "entry"), ("whom", 60), ("of", "human")), e60=group, e61=share)
        self.sees(tree, 5)
        tree[5] = entry(2, "cn", "cy", ("human",), ("mail", "all"))
        self.sees(tree, 5, 3, 4, 5)

    def test_many_trees(self):
        for seed in range(30):
            rng = random.Random(f"views {seed}")
            tree = some_ruled_tree(f"views {seed}", self.schema, 9, 6)
            for who in rng.sample([0, None, *tree], 3):
                found = view(self.schema, tree, who)
                self.assertEqual(found, plain_view(self.schema, tree, who))
                self.assertTrue(is_tree(self.schema, found))
                number = rng.choice([*tree])
                self.assertIs(is_seen(self.schema, tree, who, number), plain_seen(self.schema, tree, who, number))
                self.assertIs(is_seen(self.schema, tree, who, number), number in found)

    def test_wrong_arguments(self):
        tree = self.tree()
        right = [(0, InvalidSchema, is_schema), (1, InvalidTree, is_empty_dict), (2, UnknownNumber, is_somebody)]
        self.refuses_each(view, [self.schema, tree, 1], right)
        self.refuses_each(is_seen, [self.schema, tree, 1, 1], [*right, (3, UnknownNumber, is_one)])
        for value in wrong_values():
            if not is_somebody(value):
                self.assertIs(self.refuses(UnknownNumber, view, self.schema, tree, value).asked, value)
        # The root is no entry that is asked for.
        for number in (0, 77, True, "1", None):
            self.assertIs(self.refuses(UnknownNumber, is_seen, self.schema, tree, 0, number).asked, number)
        self.assertEqual(self.refuses(UnknownNumber, is_seen, self.schema, tree, 78, 77).asked, 78)

    def test_nothing_gives_access(self):
        tree = self.tree()
        for who in (0, None):
            view(self.schema, tree, who).clear()
            self.assertEqual(len(view(self.schema, tree, who)), len(tree))
        for who in (0, None):
            self.assertIsNot(view(self.schema, {}, who), view(self.schema, {}, who))


class NeededTests(ViewTests):
    """The rights that deeds need [21.3]."""

    def needs(self, deed, *told, tree=None):
        """Tests which rights a deed needs; a pair (number, type) stands for both rights that writing needs."""
        tree = self.tree() if tree is None else tree
        rows = []
        for row in told:
            rows += [row] if len(row) == 3 else [("write", *row), ("see", *row)]
        self.assertEqual(needed(self.schema, tree, deed), tuple(rows))
        self.assertEqual(plain_needed(self.schema, tree, deed), tuple(rows))

    def test_add(self):
        name = ("cn", "x")
        self.needs(("add", 80, 2, name, ("unit",), (name,)), ("add", 2, None), (2, "cn"))
        self.needs(("add", 80, 0, name, ("unit",), (name,)), ("add", 0, None), (0, "cn"))
        pairs = (("mail", "b"), name, ("mail", "a"), ("boss", "5"), ("cn", "y"))
        self.needs(("add", 80, 3, name, ("human",), pairs), ("add", 3, None), (3, "mail"), (3, "cn"), (3, "boss"))
        # The naming counts as a pair alone; unknown types and numbers are told all the same.
        self.needs(("add", 80, 99, name, ("human",), (("nowhere", "b"),)), ("add", 99, None), (99, "nowhere"))
        self.needs(("add", 80, 0, name, ("nowhere",), ()), ("add", 0, None))

    def test_change(self):
        self.needs(("change", 3, ()))
        parts = (("put", "mail", "a"), ("drop", "cn", "x"), ("clear", "nick"), ("set", "pal", ("4", "5")), ("raise", "mark", 3))
        self.needs(("change", 3, parts), (3, "mail"), (3, "cn"), (3, "nick"), (3, "pal"), (3, "mark"))
        self.needs(("change", 3, (("clear", "nick"), ("put", "cn", "a"), ("set", "nick", ()), ("put", "cn", "b"))), (3, "nick"), (3, "cn"))
        self.needs(("change", 99, (("put", "mail", "a"), ("clear", "nowhere"))), (99, "mail"), (99, "nowhere"))

    def test_extras(self):
        # vip comes with the frame above it, and top with both; star lets mail be borne.
        self.needs(("change", 3, (("extras", ("vip",)),)), (3, "code"), (3, "mark"))
        self.needs(("change", 3, (("extras", ("star",)),)), (3, "mail"))
        self.needs(("change", 3, (("extras", ("top",)),)), (3, "code"), (3, "mark"), (3, "pet"))
        self.needs(("change", 3, (("extras", ("vip", "star")),)), (3, "code"), (3, "mail"), (3, "mark"))
        self.needs(("change", 3, (("extras", ("star", "vip")),)), (3, "code"), (3, "mail"), (3, "mark"))
        self.needs(("change", 3, (("extras", ()),)))
        self.needs(("change", 3, (("extras", ("apart",)),)), (3, "unshared"))
        # What is there already, and stays, needs nothing; what goes needs as what comes.
        self.needs(("change", 4, (("extras", ("vip",)),)))
        self.needs(("change", 4, (("extras", ("vip", "vip")),)))
        self.needs(("change", 4, (("extras", ()),)), (4, "code"), (4, "mark"))
        self.needs(("change", 4, (("extras", ("star",)),)), (4, "code"), (4, "mail"), (4, "mark"))
        self.needs(("change", 4, (("extras", ("star", "vip")),)), (4, "mail"))
        # Held against the classes ahead of the deed, not against those behind the parts ahead.
        self.needs(("change", 4, (("extras", ()), ("extras", ("vip",)))), (4, "code"), (4, "mark"))
        self.needs(("change", 3, (("extras", ("star",)), ("extras", ()))), (3, "mail"))
        self.needs(("change", 3, (("extras", ("star",)), ("extras", ("star",)))), (3, "mail"))
        # Among other parts, each right once.
        self.needs(("change", 3, (("put", "mark", "4"), ("extras", ("vip",)), ("clear", "code"))), (3, "mark"), (3, "code"))
        # A class that is not known, or an entry that is not there: what hangs on it lacks.
        self.needs(("change", 3, (("extras", ("nowhere",)),)))
        self.needs(("change", 3, (("extras", ("nowhere", "star")),)), (3, "mail"))
        self.needs(("change", 99, (("extras", ("star",)), ("put", "mark", "4"))), (99, "mail"), (99, "mark"))
        self.needs(("change", 99, (("extras", ()), ("extras", ("nowhere",)))))
        # A shape that is no class of the entry would come; its own one stays.
        self.needs(("change", 6, (("extras", ("human",)),)), (6, "boss"), (6, "cn"), (6, "mail"), (6, "mark"), (6, "nick"), (6, "pal"))
        self.needs(("change", 6, (("extras", ("unit",)),)))
        tree = self.tree(e60=entry(0, "cn", "x", ("nowhere", "vip")))
        self.needs(("change", 60, (("extras", ()),)), (60, "code"), (60, "mark"), tree=tree)

    def test_move(self):
        self.needs(("move", 3, 6, ("cn", "x"), True), ("move", 3, None), ("add", 6, None), (3, "cn"))
        self.needs(("move", 3, 6, ("cn", "x"), False), ("move", 3, None), ("add", 6, None), (3, "cn"))
        self.needs(("move", 2, 0, ("mail", "x"), True), ("move", 2, None), ("add", 0, None), (2, "mail"))
        self.needs(("move", 2, 0, ("mail", "x"), False), ("move", 2, None), ("add", 0, None), (2, "mail"), (2, "cn"))
        self.needs(("move", 2, 1, ("cn", "two"), False), ("move", 2, None), ("add", 1, None), (2, "cn"))
        self.needs(("move", 99, 98, ("mail", "x"), False), ("move", 99, None), ("add", 98, None), (99, "mail"))
        self.needs(("move", 3, 6, ("nowhere", "x"), False), ("move", 3, None), ("add", 6, None), (3, "nowhere"), (3, "cn"))

    def test_remove(self):
        self.needs(("remove", 5), ("remove", 5, None))
        self.needs(("remove", 99), ("remove", 99, None))

    def test_many_trees(self):
        for seed in range(40):
            rng = random.Random(f"needed {seed}")
            tree = some_ruled_tree(f"needed {seed}", self.schema, 8, 2)
            for _ in range(10):
                deed = some_deed(rng, self.schema, tree, 102)
                self.assertEqual(needed(self.schema, tree, deed), plain_needed(self.schema, tree, deed))

    def test_wrong_arguments(self):
        tree = self.tree()
        self.refuses_each(needed, [self.schema, tree, ("remove", 5)], [
            (0, InvalidSchema, is_schema), (1, InvalidTree, is_empty_dict), (2, InvalidDeed, never)])
        for deed in wrong_deeds():
            self.refuses(InvalidDeed, needed, self.schema, tree, deed)


class DoneByTests(ViewTests):
    """Units of somebody [21.2, 21.4]."""

    def falls(self, tree, who, index, code, number, *unit, used=()):
        """Tests how a unit of somebody falls."""
        before = repr(tree)
        told = done_by(self.schema, tree, who, unit, used=used)
        self.assertEqual(told, ("fallen", index, code, number))
        self.assertEqual(plain_done_by(self.schema, tree, who, unit, used), told)
        self.assertEqual(repr(tree), before)

    def done(self, tree, who, *unit, used=()):
        """Tests that a unit of somebody is done, and does what it does for the house; returns the tree behind it."""
        before = repr(tree)
        told = done_by(self.schema, tree, who, unit, used=used)
        self.assertEqual(told, do_unit(self.schema, tree, unit, used=used))
        self.assertEqual(told[0], "done")
        self.assertEqual(plain_done_by(self.schema, tree, who, unit, used), told)
        self.assertEqual(repr(tree), before)
        return told[1]

    def test_done(self):
        name = ("cn", "x")
        for who in (0, None, 3, 6):
            self.done(self.tree(), who, ("add", 80, 2, name, ("unit",), (name,)), ("change", 80, (("put", "mark", "1"),)),
                      ("move", 5, 80, ("cn", "cyd"), False), ("remove", 6))

    def test_absent(self):
        tree = self.tree(bars(6, "x", "entry"), e60=entry(6, "cn", "y", ("unit",)))
        name = ("cn", "x")
        # The entry, the entry above, the texts of links, in this order; what is hidden as what is not there.
        for who, hidden in ((None, 6), (3, 60), (6, 6), (None, 99)):
            self.falls(tree, who, 0, "absent", hidden, ("remove", hidden))
            self.falls(tree, who, 0, "absent", hidden, ("change", hidden, ()))
            self.falls(tree, who, 0, "absent", hidden, ("move", hidden, 2, name, True))
            self.falls(tree, who, 0, "absent", hidden, ("move", 5, hidden, name, True))
            self.falls(tree, who, 0, "absent", hidden, ("move", hidden, 98, name, True))
            self.falls(tree, who, 0, "absent", hidden, ("add", 80, hidden, name, ("unit",), (name,)))
            self.falls(tree, who, 0, "absent", hidden, ("add", 80, hidden, name, ("unit",), (name, ("boss", "98"))))
            self.falls(tree, who, 0, "absent", hidden, ("add", 80, 2, name, ("unit",), (name, ("boss", "5"), ("pal", str(hidden)), ("boss", "98"))))
            self.falls(tree, who, 0, "absent", hidden, ("change", 5, (("put", "boss", "4"), ("put", "pal", str(hidden)), ("put", "boss", "98"))))
            self.falls(tree, who, 0, "absent", hidden, ("change", 5, (("set", "boss", ("4", str(hidden), "98")),)))
            self.falls(tree, who, 0, "absent", hidden, ("change", hidden, (("put", "boss", "98"),)))
        # To the house it does not happen.
        self.falls(tree, 0, 0, "unknown", 99, ("remove", 99))
        self.falls(tree, 0, 1, "link", 5, ("change", 5, (("put", "boss", "99"),)))
        self.falls(tree, 0, 0, "beneath", 6, ("remove", 6))

    def test_what_is_not_looked_at(self):
        tree = self.tree(bars(6, "x", "entry"))
        name = ("cn", "x")
        # Links that are dropped or cleared, texts that do not fit, other types, an add's own number.
        self.done(tree, None, ("change", 5, (("drop", "boss", "6"), ("drop", "pal", "99"), ("clear", "pal"), ("set", "boss", ()))))
        for text in ("06", "x", "0", "-6", "6 ", "1000000000001", "99999999999999999999"):
            self.falls(tree, None, 0, "kind", 5, ("change", 5, (("put", "boss", text),)))
            self.falls(tree, None, 0, "kind", 5, ("change", 5, (("set", "boss", ("4", text)),)))
            self.falls(tree, None, 0, "kind", 80, ("add", 80, 2, name, ("human",), (name, ("boss", text))))
        self.falls(tree, None, 0, "absent", 6, ("change", 5, (("put", "boss", "x"), ("put", "boss", "6"))))
        self.done(tree, None, ("change", 5, (("put", "mark", "6"), ("put", "mail", "99"))))
        self.falls(tree, None, 0, "word", 5, ("change", 5, (("put", "nowhere", "6"),)))
        self.done(tree, None, ("add", 80, 2, name, ("human",), (name, ("boss", "80"))))
        self.falls(tree, None, 0, "absent", 80, ("add", 80, 80, name, ("human",), (name, ("boss", "80"))))
        # A move's naming is asked by stage 9.
        self.falls(tree, None, 0, "naming", 5, ("move", 5, 2, ("boss", "6"), True))

    def test_absent_ahead_of_all_else(self):
        tree = self.tree(bars(6, "x", "entry"), bars(0, "y", "all", right="write"), bars(0, "z", "all", right="move"))
        name = ("cn", "x")
        self.falls(tree, None, 0, "absent", 6, ("change", 5, (("put", "mail", "a"), ("put", "nowhere", "a"), ("put", "boss", "6"))))
        self.falls(tree, None, 0, "denied", 5, ("change", 5, (("put", "mail", "a"), ("put", "nowhere", "a"))))
        self.falls(tree, None, 0, "absent", 6, ("add", 5, 6, name, ("unit",), (name,)))
        self.falls(tree, None, 0, "absent", 6, ("add", 5, 2, name, ("unit",), (name, ("boss", "6"))))
        self.falls(tree, None, 0, "denied", 2, ("add", 5, 2, name, ("unit",), (name,)))
        self.falls(tree, None, 0, "absent", 6, ("move", 5, 6, name, True))
        self.falls(tree, None, 0, "denied", 2, ("move", 2, 2, name, True))
        tree = self.tree()
        self.falls(tree, None, 0, "used", 5, ("add", 5, 2, name, ("unit",), (name,)))
        self.falls(tree, None, 0, "ring", 2, ("move", 2, 2, name, True))
        # Behind the deeds ahead in the unit: their codes come first.
        tree = self.tree(bars(6, "x", "entry"))
        self.falls(tree, None, 0, "beneath", 2, ("remove", 2), ("remove", 6))
        self.falls(tree, None, 1, "absent", 6, ("remove", 5), ("remove", 6))
        self.falls(tree, None, 1, "absent", 5, ("remove", 5), ("change", 5, ()))
        self.falls(tree, None, 1, "absent", 5, ("remove", 5), ("add", 5, 5, name, ("unit",), (name,)))
        self.falls(tree, None, 1, "used", 5, ("remove", 6 - 1), ("add", 5, 2, name, ("unit",), (name,)), used=(5,))

    def test_used(self):
        tree = self.tree(bars(2, "x", "all", right="add"))
        name = ("cn", "x")
        self.falls(tree, None, 0, "used", 80, ("add", 80, 0, name, ("unit",), (name,)), used=(80,))
        self.falls(tree, None, 0, "denied", 2, ("add", 80, 2, name, ("unit",), (name,)), used=(80,))
        self.falls(tree, None, 0, "absent", 99, ("add", 80, 99, name, ("unit",), (name,)), used=(80,))
        self.done(tree, None, ("add", 80, 0, name, ("unit",), (name,)), used=(81, 2))
        self.falls(tree, 0, 0, "used", 80, ("add", 80, 2, name, ("unit",), (name,)), used=(80,))

    def test_denied(self):
        name = ("cn", "x")
        add = ("add", 80, 2, name, ("unit",), (name, ("mail", "a")))
        move = ("move", 5, 1, ("mail", "x"), False)
        told = [
            (("add", "entry"), add, 2), (("write", "cn"), add, 2), (("see", "mail"), add, 2), (("write", "mail"), add, 2),
            (("move", "entry"), move, 5), (("add", "entry"), move, 1), (("write", "mail"), move, 5), (("write", "cn"), move, 5),
            (("see", "cn"), move, 5), (("remove", "entry"), ("remove", 5), 5),
            (("write", "mail"), ("change", 5, (("drop", "mail", "x"),)), 5), (("see", "nick"), ("change", 5, (("clear", "nick"),)), 5),
            (("write", "cn"), ("change", 5, (("set", "nick", ()),)), 5), (("write", "mark"), ("change", 5, (("raise", "mark", 1),)), 5),
            (("write", "mark"), ("change", 5, (("extras", ("vip",)), ("put", "code", "c"))), 5),
            (("see", "mark"), ("change", 5, (("extras", ("vip",)), ("put", "code", "c"))), 5),
        ]
        for (right, what), deed, number in told:
            tree = self.tree(bars(0, "x", what, right=right))
            for who in (None, 3):
                self.falls(tree, who, 0, "denied", number, deed)
            self.assertNotIn(done_by(self.schema, tree, 0, (deed,))[2:3], (("denied",), ("absent",)))
        # At the root, too.
        tree = self.tree(bars(0, "x", "entry", ("most", 0), right="add"))
        self.falls(tree, 3, 0, "denied", 0, ("add", 80, 0, name, ("unit",), (name,)))
        self.falls(tree, 3, 0, "denied", 0, ("move", 5, 0, name, True))
        # The first right that is not granted tells the number.
        tree = self.tree(bars(0, "x", "entry", right="add"), bars(0, "y", "cn", right="write"))
        self.falls(tree, 3, 0, "denied", 1, ("move", 5, 1, name, True))
        # Rights that are not needed do not matter: kept namings, types that are dropped beside, the entry's own sight.
        tree = self.tree(bars(0, "x", "cn", right="write"), bars(0, "y", "entry", right="write"))
        self.done(tree, 3, ("move", 2, 6, ("mail", "m2"), True))
        self.falls(tree, 3, 0, "denied", 2, ("move", 2, 6, ("mail", "m2"), False))
        self.done(tree, 3, ("change", 5, (("put", "mail", "q"),)))
        self.done(tree, 3, ("remove", 6))

    def test_the_tree_behind_the_deeds_ahead(self):
        name = ("label", "x")
        # A unit can take its own rights away, and give them back.
        bar = bars(0, "x", "all", right="write")
        pairs = tuple([(word, text) for word, form, text in bar[3]])
        add = ("add", 80, 0, name, ("rule",), pairs)
        change = ("change", 5, (("put", "mail", "q"),))
        self.falls(self.tree(), 3, 1, "denied", 5, add, change)
        self.done(self.tree(), 3, change, add)
        self.done(self.tree(), 3, add, ("remove", 80), change)
        self.done(self.tree(), 0, add, change)
        hide = bars(5, "x", "all")
        pairs = tuple([(word, text) for word, form, text in hide[3]])
        self.falls(self.tree(), 3, 1, "absent", 5, ("add", 80, 5, name, ("rule",), pairs), change)
        self.done(self.tree(), 3, ("add", 80, 0, ("cn", "new"), ("unit",), (("cn", "new"),)), ("move", 5, 80, ("cn", "c"), False))

    def test_somebody_that_is_no_longer_there(self):
        # Behind its own removal somebody is nobody known.
        tree = self.tree(rule(0, "x", ("rank", 5), ("may", "write"), ("what", "all"), ("grants", "yes"), ("who", "known")),
                         bars(0, "y", "all", right="write", rank=4))
        change = ("change", 3, (("put", "mail", "q"),))
        self.done(tree, 5, change)
        self.falls(tree, 5, 1, "denied", 3, ("remove", 5), change)
        self.falls(tree, None, 0, "denied", 3, change)
        self.done(tree, 0, ("remove", 5), change)

    def test_the_number_0_of_what_is_not_seen(self):
        # 61 must bear a link to 6, and lacks it behind its removal.
        alias = entry(0, "label", "a", ("alias",), ("to", "6"))
        self.falls(self.tree(e61=alias), 3, 1, "must", 61, ("remove", 6))
        tree = self.tree(bars(0, "x", "entry", ("of", "alias")), e61=alias)
        self.falls(tree, 3, 1, "must", 0, ("remove", 6))
        self.falls(tree, None, 1, "must", 0, ("remove", 6))
        self.falls(tree, 0, 1, "must", 61, ("remove", 6))
        # At that moment: by the rules behind the deeds.
        bar = bars(0, "x", "entry", ("of", "alias"))
        pairs = tuple([(word, text) for word, form, text in bar[3]])
        add = ("add", 80, 0, ("label", "x"), ("rule",), pairs)
        self.falls(self.tree(e61=alias), 3, 2, "must", 0, add, ("remove", 6))
        self.falls(tree, 3, 2, "must", 61, ("remove", 50), ("remove", 6))
        # An entry that somebody adds and does not see.
        tree = self.tree(bars(2, "x", "entry", ("of", "human"), ("least", 1)))
        self.falls(tree, 3, 1, "may", 0, ("add", 80, 2, ("cn", "n"), ("human",), (("cn", "n"), ("code", "c"))))
        self.falls(tree, 3, 1, "may", 80, ("add", 80, 6, ("cn", "n"), ("human",), (("cn", "n"), ("code", "c"))))
        # The codes of stage 9 tell the number of the deed.
        self.falls(tree, 3, 0, "used", 5, ("add", 5, 2, ("cn", "n"), ("human",), (("cn", "n"),)))
        # Behind its removal somebody is nobody known here, too.
        known = rule(0, "y", ("rank", 7), SEE, ("what", "entry"), ("grants", "yes"), ("who", "known"))
        tree = self.tree(bars(0, "x", "entry", ("of", "alias")), known, e61=entry(0, "label", "a", ("alias",), ("to", "5")))
        self.falls(tree, 3, 1, "must", 61, ("remove", 5))
        self.falls(tree, 5, 1, "must", 0, ("remove", 5))

    def test_what_a_refusal_can_tell(self):
        # [0.23]: codes of stage 9 that ask for other entries can tell what is hidden.
        tree = self.tree(bars(6, "x", "entry"))
        self.falls(tree, 3, 0, "taken", 5, ("move", 5, 0, ("cn", "six"), False))
        self.falls(self.tree(bars(4, "x", "entry")), 3, 0, "beneath", 3, ("remove", 3))

    def test_many_units(self):
        for seed in range(50):
            rng = random.Random(f"done by {seed}")
            tree = some_ruled_tree(f"done by {seed}", self.schema, 10, 5)
            for _ in range(6):
                who = somebody(rng, tree)
                unit = tuple([some_deed(rng, self.schema, tree, 102 + at) for at in range(rng.randrange(1, 4))])
                used = tuple(rng.sample(range(102, 105), rng.choice((0, 0, 1))))
                self.assertEqual(done_by(self.schema, tree, who, unit, used=used), plain_done_by(self.schema, tree, who, unit, used))
                if who == 0:
                    self.assertEqual(done_by(self.schema, tree, 0, unit, used=used), do_unit(self.schema, tree, unit, used=used))

    def test_wrong_arguments(self):
        tree = self.tree()
        unit = (("remove", 5),)
        self.refuses_each(done_by, [self.schema, tree, 1, unit], [
            (0, InvalidSchema, is_schema), (1, InvalidTree, is_empty_dict), (2, UnknownNumber, is_somebody), (3, InvalidDeed, never),
            ("used", InvalidOperation, are_numbers)], used=(80,))
        for deed in wrong_deeds():
            self.refuses(InvalidDeed, done_by, self.schema, tree, None, (("remove", 5), deed))
        self.refuses(InvalidDeed, done_by, self.schema, tree, None, (("remove", 5),) * 21)
        for used in ([1], (0,), (True,), None, (10 ** 12 + 1,), ("1",)):
            self.refuses(InvalidOperation, done_by, self.schema, tree, None, unit, used=used)
        done_by(self.schema, tree, 0, unit)[1].clear()
        self.assertEqual(tree, self.tree())
