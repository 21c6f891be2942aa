"""Tests of bailiwick.place.rights."""

import random

from bailiwick.errors import InvalidSchema, InvalidTree, InvalidWord, UnknownNumber
from bailiwick.place import rights
from bailiwick.place.rights import deciding, does_hold, granted_types, is_granted
from bailiwick.rules.schemas import Schema
from bailiwick.tree.deeds import do_deed
from bailiwick.tree.links import removed
from tests.rulers import grants, let_all, plain_deciding, plain_granted, plain_holds, rule, ruling_schema, some_ruled_tree
from tests.samples import Tests, entry, is_empty_dict, is_schema, never, wrong_values

RIGHTS = ("add", "move", "remove", "see", "write")
SEE = ("may", "see")
ANYONE = ("who", "anyone")


def is_somebody(value):
    """Whether a wrong value is somebody in a tree with the entry 1 all the same."""
    return value is None or (value in (0, 1) and not isinstance(value, bool))


def is_some_place(value):
    """Whether a wrong value is 0 or 1 all the same."""
    return value in (0, 1) and not isinstance(value, bool)


def is_word_or_none(value):
    """Whether a wrong value is a word, or None, all the same."""
    return value is None or (isinstance(value, str) and value in ("a", "a" * 12))


class RightTests(Tests):
    """Tests with a schema and a tree: units 1 (2 (humans 3 (4) and 5)) and 6, and rules from 50 on."""

    def setUp(self):
        self.schema = ruling_schema()

    def tree(self, *rules, **more):
        """The tree with some rules, and with some further entries, told as e60=.. and the like."""
        tree = {
            1: entry(0, "cn", "one", ("unit",)), 2: entry(1, "cn", "two", ("unit",)), 3: entry(2, "cn", "ann", ("human",)),
            4: entry(3, "cn", "bob", ("human",)), 5: entry(2, "cn", "cy", ("human",)), 6: entry(0, "cn", "six", ("unit",)),
        }
        tree.update({50 + at: each for at, each in enumerate(rules)})
        tree.update({int(name[1:]): value for name, value in more.items()})
        return tree

    def holds(self, tree, rule, *told):
        """Tests for whom a rule holds: pairs (who, number), with a number None for all places."""
        for who in [0, None, *tree]:
            for number in [0, *tree]:
                is_told = (who, number) in told or (who, None) in told
                self.assertIs(does_hold(self.schema, tree, rule, who, number), is_told, (who, number))
                self.assertIs(plain_holds(self.schema, tree, rule, who, number), is_told, (who, number))

    def grants(self, tree, who, right, word, *numbers):
        """Tests at which places a right is granted, and that the rules that decide agree."""
        before = repr(tree)
        for number in [0, *tree]:
            told = is_granted(self.schema, tree, who, right, number, word)
            self.assertIs(told, number in numbers, number)
            self.assertIs(told, plain_granted(self.schema, tree, who, right, number, word), number)
            rows = deciding(self.schema, tree, who, right, number, word)
            self.assertEqual(rows, plain_deciding(self.schema, tree, who, right, number, word))
            if who != 0:
                self.assertIs(told, rows != () and all(("grants", "yes", "yes") in tree[each][3] for each in rows))
            if word is not None and self.schema.kind_of(word) is not None:
                self.assertIs(word in granted_types(self.schema, tree, who, right, number), told)
        self.assertEqual(repr(tree), before)


class HoldTests(RightTests):
    """For whom rules hold [20.2]."""

    def test_constant(self):
        self.assertEqual(rights.RIGHTS, RIGHTS)

    def test_words_of_who(self):
        numbers = [1, 2, 3, 4, 5, 6, 50]
        self.holds(self.tree(rule(0, "r", ANYONE)), 50, *[(who, None) for who in (None, *numbers)])
        self.holds(self.tree(rule(0, "r", ("who", "known"))), 50, *[(who, None) for who in numbers])
        self.holds(self.tree(rule(0, "r", ("who", "self"))), 50, *[(who, who) for who in numbers])
        self.holds(self.tree(rule(0, "r", ("who", "self"), ("who", "known"))), 50, *[(who, None) for who in numbers])
        self.holds(self.tree(rule(0, "r", ("who", "self"), ANYONE)), 50, *[(who, None) for who in (None, *numbers)])
        for word in ("Anyone", "any", "everyone", "3", "0", "all", "nobody", "none"):
            self.holds(self.tree(rule(0, "r", ("who", word))), 50)
        self.holds(self.tree(rule(0, "r")), 50)
        # What a rule grants, and where, does not matter here.
        self.holds(self.tree(rule(6, "r", ANYONE, ("grants", "no"), ("most", 0), ("of", "human"))), 50,
                   *[(who, None) for who in (None, *numbers)])

    def test_whom_an_entry(self):
        self.holds(self.tree(rule(0, "r", ("whom", 3))), 50, (3, None))
        self.holds(self.tree(rule(0, "r", ("whom", 3), ("whom", 6))), 50, (3, None), (6, None))
        self.holds(self.tree(rule(0, "r", ("whom", 50))), 50, (50, None))
        # Links of other types, and the words of who, lead nowhere.
        self.holds(self.tree(rule(0, "r", ("without", 3), ("who", "3"))), 50)

    def test_whom_an_entry_above(self):
        self.holds(self.tree(rule(0, "r", ("whom", 2))), 50, (2, None))
        self.holds(self.tree(rule(0, "r", ("whom", 2), ("below", "no"))), 50, (2, None))
        self.holds(self.tree(rule(0, "r", ("whom", 2), ("below", "yes"))), 50, *[(who, None) for who in (2, 3, 4, 5)])
        self.holds(self.tree(rule(0, "r", ("whom", 3), ("below", "yes"))), 50, (3, None), (4, None))
        self.holds(self.tree(rule(0, "r", ("whom", 1), ("below", "yes"))), 50, *[(who, None) for who in (1, 2, 3, 4, 5)])
        self.holds(self.tree(rule(0, "r", ("whom", 4), ("whom", 6), ("below", "yes"))), 50, (4, None), (6, None))
        self.holds(self.tree(rule(0, "r", ("below", "yes"))), 50)
        # A tree that is not right can have both.
        self.holds(self.tree(rule(0, "r", ("whom", 3), ("below", "yes"), ("below", "no"))), 50, (3, None), (4, None))

    def test_whom_a_group(self):
        group = entry(0, "label", "g", ("group",), ("member", "4"), ("member", "61"), ("chosen", "(cn=c*)"))
        other = entry(0, "label", "h", ("group",), ("member", "6"), ("member", "60"))
        tree = self.tree(rule(0, "r", ("whom", 60)), rule(0, "s", ("whom", 61), ("whom", 1)), e60=group, e61=other)
        # The group itself is the entry to which the link leads, and no member.
        self.holds(tree, 50, (60, None), (4, None), (5, None), (6, None))
        self.holds(tree, 51, (61, None), (1, None), (4, None), (5, None), (6, None))
        # Entries beneath members are none; those beneath the group are, with below.
        lower = entry(60, "label", "k", ("group",))
        tree = self.tree(rule(0, "r", ("whom", 60)), rule(0, "s", ("whom", 60), ("below", "yes")), e60=group, e61=other, e62=lower)
        self.holds(tree, 50, (60, None), (4, None), (5, None), (6, None))
        self.holds(tree, 51, (60, None), (62, None), (4, None), (5, None), (6, None))
        # A link to what is no group makes nobody of its members.
        tree = self.tree(rule(0, "r", ("whom", 60)), e60=entry(0, "label", "g", ("share",), ("member", "4")))
        self.holds(tree, 50, (60, None))

    def test_links_that_are_gone(self):
        tree = self.tree(rule(0, "r", ("whom", 4)), rule(0, "s", ("whom", 4), ("whom", 6)), rule(0, "t", ("whom", 4), ANYONE))
        tree = removed(self.schema, tree, 4)
        self.holds(tree, 50)
        self.holds(tree, 51, (6, None))
        self.holds(tree, 52, *[(who, None) for who in (None, *tree)])

    def test_rules_that_stay_with_entries(self):
        # [0.23]: rights do not stay with an entry that is moved, unless they are its own.
        tree = self.tree(rule(1, "r", ("whom", 2), ("below", "yes"), SEE, ("what", "all"), ("rank", 1), ("grants", "yes")))
        self.grants(tree, 3, "see", None, 1, 2, 3, 4, 5, 50)
        moved = do_deed(self.schema, tree, ("move", 3, 6, ("cn", "ann"), True))[1]
        self.grants(moved, 3, "see", None)
        self.grants(moved, 5, "see", None, 1, 2, 5, 50)
        self.grants(do_deed(self.schema, moved, ("move", 3, 2, ("cn", "ann"), True))[1], 3, "see", None, 1, 2, 3, 4, 5, 50)

    def test_wrong_arguments(self):
        tree = self.tree(rule(0, "r", ANYONE))
        self.refuses_each(does_hold, [self.schema, tree, 50, 1, 1], [
            (0, InvalidSchema, is_schema), (1, InvalidTree, is_empty_dict), (2, UnknownNumber, never),
            (3, UnknownNumber, is_somebody), (4, UnknownNumber, is_some_place)])
        tree[51] = entry(0, "label", "s", ("share",))
        for number in (0, 1, 51, 77, True, "50", None):
            self.assertIs(self.refuses(UnknownNumber, does_hold, self.schema, tree, number, 77, 77).asked, number)
        self.assertEqual(self.refuses(UnknownNumber, does_hold, self.schema, tree, 50, 77, 78).asked, 77)
        self.assertEqual(self.refuses(UnknownNumber, does_hold, self.schema, tree, 50, 0, 78).asked, 78)


class GrantTests(RightTests):
    """What rules grant [20.1, 20.3]."""

    def test_without_rules(self):
        tree = self.tree()
        for who in (None, *tree):
            for right in RIGHTS:
                for word in (None, "cn", "label", "nowhere"):
                    self.grants(tree, who, right, word)

    def test_the_house(self):
        for tree in (self.tree(), self.tree(grants(0, "r", 5, ANYONE, *[("may", right) for right in RIGHTS], yes="no"))):
            for right in RIGHTS:
                for word in (None, "cn", "label", "nowhere"):
                    self.grants(tree, 0, right, word, 0, *tree)
                    self.assertEqual(deciding(self.schema, tree, 0, right, 1, word), ())
                words = tuple([each.name for each in self.schema.types])
                self.assertEqual(granted_types(self.schema, tree, 0, right, 1), words)
                self.assertEqual(granted_types(self.schema, tree, 0, right, 0), words)

    def test_rights(self):
        for right in RIGHTS:
            tree = self.tree(grants(0, "r", 1, ANYONE, ("may", right)))
            for other in RIGHTS:
                numbers = [0, *tree] if other == right else []
                self.grants(tree, None, other, None, *numbers)
                self.grants(tree, 3, other, "cn", *numbers)
        tree = self.tree(grants(0, "r", 1, ANYONE, ("may", "see"), ("may", "add"), ("may", "All"), ("may", "all")))
        self.assertEqual([is_granted(self.schema, tree, None, right, 0) for right in RIGHTS], [True, False, False, True, False])

    def test_what(self):
        told = {
            "entry": [None, "entry"], "cn": ["cn", "nick", "pet"], "nick": ["nick", "pet"], "pet": ["pet"], "mail": ["mail"],
            "boss": ["boss", "pal"], "label": ["label"], "nowhere": [], "Cn": [], "*": [], "human": [],
            "all": [None, "cn", "nick", "pet", "mail", "boss", "pal", "label", "nowhere", "entry"],
        }
        for what, words in told.items():
            tree = self.tree(rule(0, "r", ("rank", 1), ("grants", "yes"), ANYONE, SEE, ("what", what)))
            for word in (None, "cn", "nick", "pet", "mail", "boss", "pal", "label", "nowhere", "entry"):
                self.grants(tree, 4, "see", word, *([0, *tree] if word in words else []))
        tree = self.tree(rule(0, "r", ("rank", 1), ("grants", "yes"), ANYONE, SEE, ("what", "nick"), ("what", "entry"), ("what", "label")))
        self.assertEqual(granted_types(self.schema, tree, None, "see", 1), ("entry", "label", "nick", "pet"))
        self.assertEqual(granted_types(self.schema, tree, None, "write", 1), ())
        tree = self.tree(rule(0, "r", ("rank", 1), ("grants", "yes"), ANYONE, SEE))
        for word in (None, "cn", "nowhere"):
            self.grants(tree, 4, "see", word)

    def test_a_type_that_is_called_entry_in_no_schema(self):
        schema = Schema((), ())
        tree = {50: rule(0, "r", ("rank", 1), ("grants", "yes"), ANYONE, SEE, ("what", "entry"))}
        self.assertIs(is_granted(schema, tree, None, "see", 50), True)
        self.assertIs(is_granted(schema, tree, None, "see", 50, "entry"), False)
        self.assertIs(is_granted(schema, tree, None, "see", 50, "all"), False)
        tree = {50: rule(0, "r", ("rank", 1), ("grants", "yes"), ANYONE, SEE, ("what", "all"))}
        self.assertIs(is_granted(schema, tree, None, "see", 50, "entry"), True)
        self.assertIs(is_granted(schema, tree, None, "see", 50, "all"), True)

    def test_areas(self):
        may = (SEE, ANYONE)
        self.grants(self.tree(grants(0, "r", 1, *may)), None, "see", None, 0, 1, 2, 3, 4, 5, 6, 50)
        self.grants(self.tree(grants(2, "r", 1, *may)), None, "see", None, 2, 3, 4, 5, 50)
        self.grants(self.tree(grants(2, "r", 1, *may, ("least", 1))), None, "see", None, 3, 4, 5, 50)
        self.grants(self.tree(grants(2, "r", 1, *may, ("most", 1))), None, "see", None, 2, 3, 5, 50)
        self.grants(self.tree(grants(2, "r", 1, *may, ("without", 3))), None, "see", None, 2, 5, 50)
        self.grants(self.tree(grants(2, "r", 1, *may, ("of", "human"))), None, "see", None, 3, 4, 5)
        self.grants(self.tree(grants(0, "r", 1, *may, ("of", "unit"))), None, "see", "cn", 1, 2, 6)
        self.grants(self.tree(grants(0, "r", 1, *may, ("most", 0))), None, "see", "cn", 0)
        # Each rule in its own area, and ranks only where both speak.
        tree = self.tree(grants(0, "r", 1, *may), grants(2, "s", 2, *may, yes="no"), grants(3, "t", 3, *may))
        self.grants(tree, 6, "see", None, 0, 1, 3, 4, 6, 50, 52)

    def test_ranks(self):
        may = (SEE, ANYONE)
        places = [0, 1, 2, 3, 4, 5, 6, 50, 51]
        self.grants(self.tree(grants(0, "r", 1, *may), grants(0, "s", 2, *may, yes="no")), None, "see", None)
        self.grants(self.tree(grants(0, "r", 3, *may), grants(0, "s", 2, *may, yes="no")), None, "see", None, *places)
        self.grants(self.tree(grants(0, "r", -2, *may), grants(0, "s", -3, *may, yes="no")), None, "see", None, *places)
        self.grants(self.tree(grants(0, "r", 10, *may), grants(0, "s", 9, *may, yes="no")), None, "see", None, *places)
        # Of several rules of equal rank one that bars is enough.
        tree = self.tree(grants(0, "r", 2, *may), grants(0, "s", 2, *may, yes="no"), grants(0, "t", 2, *may), grants(0, "u", 1, *may))
        self.grants(tree, None, "see", None)
        self.assertEqual(deciding(self.schema, tree, None, "see", 1), (50, 51, 52))
        tree = self.tree(grants(0, "r", 2, *may), grants(0, "s", 2, *may))
        self.grants(tree, None, "see", None, *places)
        self.assertEqual(deciding(self.schema, tree, None, "see", 1), (50, 51))
        # A rule that does not hold, or does not speak of it, does not decide.
        tree = self.tree(grants(0, "r", 1, *may), grants(0, "s", 2, SEE, ("whom", 3), yes="no"), grants(0, "t", 3, ("may", "add"), ANYONE, yes="no"))
        self.grants(tree, 3, "see", None)
        self.grants(tree, 4, "see", None, *places, 52)
        self.assertEqual(deciding(self.schema, tree, 3, "see", 1), (51,))
        self.assertEqual(deciding(self.schema, tree, 4, "see", 1), (50,))

    def test_several_ranks_and_none(self):
        may = (SEE, ANYONE)
        places = [0, 1, 2, 3, 4, 5, 6, 50, 51]
        # Of several numbers of a rule the greatest counts.
        self.grants(self.tree(grants(0, "r", 1, *may, ("rank", 10)), grants(0, "s", 9, *may, yes="no")), None, "see", None, *places)
        self.grants(self.tree(grants(0, "r", 5, *may), grants(0, "s", 9, *may, ("rank", -3), ("rank", 1), yes="no")), None, "see", None)
        # One without a number does not count.
        lame = rule(0, "s", ("what", "all"), ("grants", "no"), *may)
        self.grants(self.tree(grants(0, "r", -5, *may), lame), None, "see", None, *places)
        lame = rule(0, "s", ("what", "all"), ("grants", "yes"), *may)
        self.grants(self.tree(lame), None, "see", None)
        self.assertEqual(deciding(self.schema, self.tree(lame), None, "see", 1), ())

    def test_grants(self):
        may = (SEE, ANYONE, ("what", "all"), ("rank", 1))
        places = [0, 1, 2, 3, 4, 5, 6, 50]
        self.grants(self.tree(rule(0, "r", *may, ("grants", "yes"))), None, "see", None, *places)
        self.grants(self.tree(rule(0, "r", *may, ("grants", "no"))), None, "see", None)
        self.grants(self.tree(rule(0, "r", *may)), None, "see", None)
        self.grants(self.tree(rule(0, "r", *may, ("grants", "no"), ("grants", "yes"))), None, "see", None, *places)
        self.assertEqual(deciding(self.schema, self.tree(rule(0, "r", *may)), None, "see", 1), (50,))

    def test_oneself(self):
        tree = self.tree(grants(0, "r", 1, ("who", "self"), ("may", "write")), grants(2, "s", 2, ("who", "self"), ("may", "write"), yes="no"))
        for who in (1, 6, 50):
            self.grants(tree, who, "write", "cn", who)
        for who in (None, 2, 3, 4, 5, 51):
            self.grants(tree, who, "write", "cn")

    def test_own_values_alone_count(self):
        # A share cannot make a rule of a rule: its values are not read here.
        share = entry(0, "label", "s", ("share",), ("mail", "m"), ("mark", "5"))
        group = entry(0, "label", "g", ("group",), ("chosen", "(mail=m)"))
        tree = self.tree(grants(0, "r", 1, SEE, ("whom", 60)), e60=group, e61=share)
        for who in (1, 3, 5):
            self.grants(tree, who, "see", None)
        tree[3] = entry(2, "cn", "ann", ("human",), ("mail", "m"))
        self.grants(tree, 3, "see", None, 0, *tree)
        self.grants(tree, 4, "see", None)

    def test_what_is_no_rule(self):
        values = [("rank", 1), ("grants", "yes"), ANYONE, SEE, ("what", "all")]
        pairs = [(word, str(value)) for word, value in values]
        for name in ("share", "group", "unit", "nowhere"):
            tree = self.tree(entry(0, "label", "r", (name,), *pairs))
            self.grants(tree, None, "see", None)
        tree = self.tree(entry(0, "label", "r", ("rule", "share", "zzz"), *pairs))
        self.grants(tree, None, "see", None, 0, *tree)

    def test_more_rights_can_tell_fewer_entries(self):
        # [0.23]: one more rule can bar.
        tree = let_all(50, 0, "r", 1, ANYONE)
        self.assertIs(is_granted(self.schema, tree, None, "see", 50), True)
        tree[51] = grants(0, "s", 2, SEE, ANYONE, yes="no")
        self.assertIs(is_granted(self.schema, tree, None, "see", 50), False)

    def test_many_trees(self):
        for seed in range(12):
            rng = random.Random(f"rights {seed}")
            tree = some_ruled_tree(f"rights {seed}", self.schema, 10, 7)
            for who in rng.sample([None, *tree], 4):
                for rule_number in [number for number in tree if "rule" in tree[number][2]]:
                    number = rng.choice([0, who or 0, *tree])
                    self.assertIs(does_hold(self.schema, tree, rule_number, who, number),
                                  plain_holds(self.schema, tree, rule_number, who, number))
                for number in rng.sample([0, *tree], 4):
                    right = rng.choice(("see", "see", *RIGHTS))
                    words = [None, "nowhere", *[each.name for each in self.schema.types]]
                    told = [word for word in words if plain_granted(self.schema, tree, who, right, number, word)]
                    self.assertEqual([word for word in words if is_granted(self.schema, tree, who, right, number, word)], told)
                    self.assertEqual(granted_types(self.schema, tree, who, right, number), tuple(
                        [word for word in told if word not in (None, "nowhere")]))
                    word = rng.choice(words)
                    self.assertEqual(deciding(self.schema, tree, who, right, number, word),
                                     plain_deciding(self.schema, tree, who, right, number, word))

    def test_wrong_arguments(self):
        tree = self.tree(grants(0, "r", 1, SEE, ANYONE))
        places = [(0, InvalidSchema, is_schema), (1, InvalidTree, is_empty_dict), (2, UnknownNumber, is_somebody),
                  (3, InvalidWord, never), (4, UnknownNumber, is_some_place)]
        self.refuses_each(granted_types, [self.schema, tree, 1, "see", 1], places)
        for call in (is_granted, deciding):
            self.refuses_each(call, [self.schema, tree, 1, "see", 1, None], [*places, (5, InvalidWord, is_word_or_none)])
            for value in ("See", "all", "entry", "see ", ("see",), ["see"], 3, None):
                self.assertIs(self.refuses(InvalidWord, call, self.schema, tree, None, value, 77).value, value)
            for word in ("", "Cn", "cn ", "*", 3, ("cn",), "a" * 13, False):
                self.assertIs(self.refuses(InvalidWord, call, self.schema, tree, 0, "see", 1, word).value, word)
            for number in (-1, 7, 10 ** 13, True, "1", None):
                self.assertIs(self.refuses(UnknownNumber, call, self.schema, tree, 0, "see", number, "!").asked, number)
        for value in wrong_values():
            if not is_somebody(value):
                self.assertIs(self.refuses(UnknownNumber, granted_types, self.schema, tree, value, "see", 1).asked, value)
