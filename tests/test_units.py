"""Tests of bailiwick.tree.units."""

import random

from bailiwick.base.names import name_text
from bailiwick.errors import (
    InvalidDeed, InvalidOperation, InvalidSchema, InvalidTree, Refused, UnknownNumber,
)
from bailiwick.rules.judge import first_fault, is_right
from bailiwick.rules.schemas import Class, Schema
from bailiwick.rules.types import Type
from bailiwick.tree import units
from bailiwick.tree.deeds import do_deed, is_deed, is_unit
from bailiwick.tree.links import loose_links
from bailiwick.tree.trees import is_tree, level, name_of
from bailiwick.tree.units import all_beneath, do_unit, is_wish, resolved, resolved_unit, unit_touched
from tests.samples import Tests, entry, is_empty_dict, is_schema, never, sample_schema, sample_tree, wrong_values
from tests.test_deeds import ADD, REMOVE, wrong_deeds, wrong_parts
from tests.test_trees import chain_tree, wide_tree


def add(number, above, text, classes=("unit",), *pairs):
    """An add of an entry that is named by a text."""
    return ("add", number, above, ("cn", text), classes, (("cn", text), *pairs))


def human(number, above, text, *pairs):
    """An add of a human."""
    return add(number, above, text, ("human",), *pairs)


class UnitTests(Tests):
    """Tests with a schema and a tree on which units are done."""

    def setUp(self):
        self.schema = sample_schema()
        self.tree = sample_tree()

    def done(self, *unit, tree=None, used=()):
        """The tree behind a unit that is done; tests what holds behind each unit."""
        tree = self.tree if tree is None else tree
        before = list(tree.items())
        told = do_unit(self.schema, tree, unit, used=used)
        self.assertEqual(told[0], "done", (unit, told))
        self.assertEqual(list(tree.items()), before)
        self.assertIsNot(told[1], tree)
        self.assertEqual(list(told[1]), sorted(told[1]))
        self.assertTrue(is_tree(self.schema, told[1]))
        if is_right(self.schema, tree):
            self.assertTrue(is_right(self.schema, told[1]))
        return told[1]

    def falls(self, index, code, number, *unit, tree=None, used=()):
        """Tests that a unit falls at a deed, with a code and a number."""
        tree = self.tree if tree is None else tree
        before = list(tree.items())
        self.assertEqual(do_unit(self.schema, tree, unit, used=used), ("fallen", index, code, number), unit)
        self.assertEqual(list(tree.items()), before)
        if used == ():
            self.assertEqual(self.refuses(Refused, unit_touched, self.schema, tree, unit).reason, code)


class DoUnitTests(UnitTests):
    """Doing units [10.1]."""

    def test_constant(self):
        self.assertEqual(units.MAX_DEEDS, 20)

    def test_done(self):
        behind = self.done(add(7, 0, "New"), human(8, 7, "Al"), ("move", 20, 8, ("cn", "Bo"), False), ("remove", 5))
        self.assertEqual(sorted(behind), [1, 2, 7, 8, 10, 20, 30])
        self.assertEqual(name_of(behind, 20), (("cn", "Bo"), ("cn", "Al"), ("cn", "New")))
        self.assertEqual(self.done(("change", 1, ())), self.tree)

    def test_a_deed_that_falls(self):
        self.falls(0, "unknown", 77, ("remove", 77))
        self.falls(1, "unknown", 77, ("remove", 5), ("remove", 77), ("remove", 1))
        self.falls(1, "used", 7, add(7, 0, "a"), add(7, 0, "b"))
        self.falls(2, "taken", 8, ("remove", 5), add(7, 0, "a"), add(8, 0, "A"), ("change", 1, (("put", "x", "y"),)))
        self.falls(1, "unknown", 5, ("remove", 5), ("change", 5, ()))
        self.falls(0, "ring", 1, ("move", 1, 2, ("cn", "a"), False))
        # Deeds that would mend it come too late.
        self.falls(0, "taken", 7, add(7, 0, "five"), ("remove", 5))
        self.done(("remove", 5), add(7, 0, "five"))

    def test_deeds_see_those_ahead_of_them(self):
        self.assertEqual(self.done(("remove", 5), add(5, 1, "x"))[5][0], 1)
        self.assertEqual(self.done(add(7, 0, "a"), ("remove", 7)), self.tree)
        behind = self.done(("remove", 20), ("remove", 10), ("remove", 30), ("remove", 2), ("remove", 1), ("remove", 5))
        self.assertEqual(behind, {})

    def test_links_that_are_loose_in_the_middle(self):
        behind = self.done(human(7, 1, "a", ("boss", "8")), human(8, 1, "b", ("boss", "7")))
        self.assertEqual(behind[7][3][0], ("boss", "8", "8"))
        self.assertEqual(behind[8][3][0], ("boss", "7", "7"))
        self.done(("change", 10, (("put", "pal", "8"),)), human(8, 1, "b"))
        self.falls(2, "link", 7, human(7, 1, "a", ("boss", "8")), human(9, 1, "b"))
        self.done(human(7, 1, "a", ("boss", "8")), ("change", 7, (("drop", "boss", "8"),)))
        self.done(human(7, 1, "a", ("boss", "8")), ("remove", 7))
        behind = self.done(human(7, 1, "a", ("boss", "8")), human(8, 1, "b"), ("remove", 8))
        self.assertEqual(behind[7][3], (("cn", "a", "a"),))
        self.done(human(7, 1, "a", ("boss", "7")))

    def test_loose_links_behind_the_last_deed(self):
        self.falls(1, "link", 10, ("change", 10, (("put", "pal", "8"),)))
        self.falls(2, "link", 10, ("change", 10, (("put", "pal", "8"),)), ("remove", 5))
        # The loose link is told ahead of the faults of the same entry, and the lesser number ahead of the greater.
        self.falls(1, "link", 7, human(7, 0, "a", ("boss", "8")))
        self.falls(2, "place", 6, human(7, 1, "a", ("boss", "8")), human(6, 0, "b"))
        self.falls(2, "link", 6, human(7, 0, "a"), human(6, 1, "b", ("boss", "8")))
        # A link that has gone with the entry to which it led does not come back with the number.
        behind = self.done(("remove", 20), human(20, 1, "b"))
        self.assertEqual(behind[30][3], (("age", "7", "7"), ("cn", "cy", "cy"), ("pal", "30", "30")))

    def test_faults_behind_the_last_deed(self):
        self.falls(1, "place", 7, human(7, 0, "a"))
        self.falls(1, "class", 7, add(7, 0, "a", ("nowhere",)))
        self.falls(1, "frame", 7, add(7, 0, "a", ("thing", "unit")))
        self.falls(1, "shape", 7, add(7, 0, "a", ("vip",)))
        self.falls(1, "double", 7, add(7, 1, "a", ("human", "top", "vip"), ("code", "1")))
        self.falls(1, "extra", 7, add(7, 1, "a", ("human", "moon")))
        self.falls(1, "single", 7, human(7, 1, "a", ("age", "1"), ("age", "2")))
        self.falls(1, "may", 7, human(7, 1, "a", ("pet", "q")))
        self.falls(1, "must", 7, add(7, 1, "a", ("worker",)))
        self.falls(1, "naming", 7, ("add", 7, 1, ("age", "1"), ("human",), (("age", "1"), ("cn", "a"))))
        self.falls(1, "may", 1, ("change", 1, (("put", "mail", "a"),)))
        self.falls(1, "place", 20, ("move", 20, 0, ("cn", "Bo"), False))
        self.falls(1, "must", 30, ("change", 30, (("clear", "age"),)))
        self.falls(1, "extra", 1, ("change", 1, (("extras", ("vip",)),)))

    def test_the_first_code_decides(self):
        # Of an entry the first fault, and of entries the least number, whatever the order of the deeds.
        self.falls(1, "single", 7, human(7, 0, "a", ("age", "1"), ("age", "2"), ("pet", "q")))
        self.falls(2, "may", 1, human(7, 0, "a"), ("change", 1, (("put", "mail", "a"),)))
        self.falls(3, "place", 6, human(7, 0, "a"), human(6, 0, "b"), ("change", 10, (("put", "code", "a"),)))
        # Codes of deeds come ahead of all of these.
        self.falls(1, "unknown", 77, human(7, 0, "a"), ("remove", 77))

    def test_what_is_wrong_in_the_middle_alone(self):
        self.done(human(7, 0, "a"), ("move", 7, 1, ("cn", "a"), False))
        self.done(("change", 30, (("clear", "age"),)), ("change", 30, (("put", "age", "5"),)))
        self.done(human(7, 0, "a"), ("remove", 7))

    def test_entries_that_lose_links_are_asked(self):
        alias = ("add", 7, 0, ("label", "x"), ("alias",), (("label", "x"), ("to", "5")))
        tree = self.done(alias)
        self.falls(1, "must", 7, ("remove", 5), tree=tree)
        self.done(("remove", 5), ("remove", 7), tree=tree)
        self.done(("remove", 5), ("change", 7, (("put", "to", "1"),)), tree=tree)
        self.assertEqual(unit_touched(self.schema, tree, (("remove", 7),)), ())
        self.assertEqual(unit_touched(self.schema, tree, (("remove", 5), ("change", 7, (("put", "to", "1"),)))), (7,))

    def test_entries_that_are_not_touched_are_not_asked(self):
        wrong = {1: entry(0, "cn", "a", ("unit",), ("mail", "x")), 2: entry(0, "cn", "b", ("human",))}
        self.done(add(3, 1, "a"), tree=wrong)
        self.done(("remove", 2), tree=wrong)
        self.falls(1, "may", 1, ("change", 1, ()), tree=wrong)
        self.falls(2, "may", 1, ("change", 2, ()), ("move", 1, 0, ("cn", "a"), True), tree=wrong)

    def test_one_and_twenty_deeds(self):
        twenty = tuple([add(at, 0, f"n{at}") for at in range(100, 120)])
        self.assertEqual(len(self.done(*twenty)), 26)
        for wrong in ((), (*twenty, add(120, 0, "x")), list(twenty), twenty[0]):
            self.refuses(InvalidDeed, do_unit, self.schema, self.tree, wrong)

    def test_sixty_entries(self):
        tree = {number: entry(0, "cn", f"n{number}", ("unit",)) for number in range(1, 60)}
        self.done(add(60, 0, "a"), tree=tree)
        self.falls(1, "full", 61, add(60, 0, "a"), add(61, 0, "b"), tree=tree)
        self.done(add(60, 0, "a"), ("remove", 5), add(61, 0, "b"), tree=tree)

    def test_levels(self):
        self.done(("remove", 8), add(9, 7, "b"), tree=chain_tree(8))
        self.falls(1, "deep", 9, add(10, 7, "b"), add(9, 10, "b"), tree=chain_tree(8))

    def test_used(self):
        self.falls(0, "used", 7, add(7, 0, "a"), used=(9, 7))
        self.falls(1, "used", 5, ("remove", 5), add(5, 0, "a"), used=(5,))
        self.falls(0, "used", 7, add(7, 77, "a"), used=(7,))
        self.assertEqual(sorted(self.done(("remove", 5), add(8, 0, "a"), used=(7, 5, 1))), [1, 2, 8, 10, 20, 30])
        self.falls(1, "used", 7, ("remove", 5), add(7, 0, "a"), used=(7, 7, 10 ** 12))
        for used in ([7], (0,), (True,), ("7",), 7, None, {7: 7}, (10 ** 12 + 1,), (-1,)):
            self.refuses(InvalidOperation, do_unit, self.schema, self.tree, (REMOVE,), used=used)

    def test_touched(self):
        for unit, told in [
            ((("change", 1, ()),), (1,)), ((add(7, 0, "a"), ("change", 1, ())), (1, 7)), ((("remove", 20),), (30,)),
            ((add(7, 0, "a"), ("remove", 7)), ()), ((("remove", 20), ("remove", 30)), ()),
            ((("move", 2, 5, ("cn", "two"), True), ("change", 2, ()), ("remove", 1)), (2,)),
            ((human(9, 1, "a", ("boss", "8")), human(8, 1, "b")), (8, 9)),
        ]:
            self.assertEqual(unit_touched(self.schema, self.tree, unit), told)

    def test_wrong_arguments(self):
        unit = (("change", 1, ()),)
        self.refuses_each(do_unit, [self.schema, self.tree, unit], [
            (0, InvalidSchema, is_schema), (1, InvalidTree, is_empty_dict), (2, InvalidDeed, never),
            ("used", InvalidOperation, lambda value: value in ((), (1, 2)))], used=())
        self.refuses_each(unit_touched, [self.schema, self.tree, unit], [
            (0, InvalidSchema, is_schema), (1, InvalidTree, is_empty_dict), (2, InvalidDeed, never)])
        for value in wrong_deeds():
            self.refuses(InvalidDeed, do_unit, self.schema, self.tree, (value,))
            self.refuses(InvalidDeed, do_unit, self.schema, self.tree, (REMOVE, value))
        loose = {1: entry(0, "cn", "a", ("unit",), ("boss", "2"))}
        for call in (do_unit, unit_touched):
            self.refuses(InvalidTree, call, self.schema, loose, unit)


class ManyUnitsTests(UnitTests):
    """Units by chance: [10.1], [10.2]."""

    def some_deed(self, chance, tree):
        """A deed by chance, often one that is done."""
        numbers = [*tree, 6, 7]
        number, above = chance.choice(numbers), chance.choice((0, *numbers))
        text = chance.choice(("a", "B", "c", "five", "Ann"))
        part = chance.choice((
            ("put", "pal", str(chance.choice(numbers))), ("clear", "pal"), ("drop", "boss", "10"), ("put", "mail", text),
            ("set", "age", (str(chance.randrange(5)),)), ("raise", "age", 1), ("extras", chance.choice(((), ("vip",), ("star",)))),
            ("put", "pet", text), ("clear", "pet"), ("put", "cn", text),
        ))
        return chance.choice((
            add(chance.randrange(3, 9), above, text), human(chance.randrange(3, 9), above, text, ("boss", str(number))),
            add(chance.randrange(3, 9), above, text, ("worker",), ("age", "1")), ("change", number, (part,)),
            ("change", number, (part,)), ("move", number, above, ("cn", text), chance.random() < 0.5), ("remove", number),
            ("add", chance.randrange(3, 9), 0, ("label", text), ("alias",), (("label", text), ("to", str(number)))),
        ))

    def one_by_one(self, unit):
        """What is told of a unit, by doing its deeds one by one; a loose link is told from the tree behind it."""
        tree, marks = self.tree, set()
        for at, deed in enumerate(unit):
            word, behind = do_deed(self.schema, tree, deed)
            if word == "fallen":
                return None if behind == "link" else ("fallen", at, behind, deed[1])
            if deed[0] == "remove":
                marks |= {number for number in behind if behind[number] != tree[number]}
            else:
                marks.add(deed[1])
            tree = behind
        there = sorted([number for number in marks if number in tree])
        fault = first_fault(self.schema, tree, tuple(there))
        self.assertEqual(loose_links(self.schema, tree), ())
        return ("done", tree) if fault is None else ("fallen", len(unit), fault[1], fault[0])

    def test_by_chance(self):
        chance = random.Random(11)
        done, codes = 0, set()
        for _ in range(4000):
            unit = tuple([self.some_deed(chance, self.tree) for _ in range(chance.choice((1, 1, 2, 3)))])
            told = do_unit(self.schema, self.tree, unit)
            plain = self.one_by_one(unit)
            if plain is not None:
                self.assertEqual(told, plain, unit)
            if told[0] == "done":
                done += 1
                self.done(*unit)
                self.tree = told[1] if chance.random() < 0.5 else sample_tree()
            else:
                self.falls(*told[1:], *unit)
                codes.add(told[2])
        self.assertGreater(done, 500)
        self.assertTrue({"link", "place", "must", "may", "extra", "used", "taken", "ring", "beneath", "unknown"} <= codes, codes)

    def test_two_units_are_one(self):
        chance = random.Random(12)
        both = turned = 0
        for _ in range(3000):
            one = tuple([self.some_deed(chance, self.tree) for _ in range(chance.choice((1, 2)))])
            first = do_unit(self.schema, self.tree, one)
            if first[0] == "fallen":
                continue
            two = tuple([self.some_deed(chance, first[1]) for _ in range(chance.choice((1, 2)))])
            second = do_unit(self.schema, first[1], two)
            if second[0] == "done":
                both += 1
                self.assertEqual(do_unit(self.schema, self.tree, one + two), second)
                turned += do_unit(self.schema, self.tree, two + one) != second
        self.assertGreater(both, 100)
        self.assertGreater(turned, 10)

    def test_all_deeds_of_two_units_can_be_done_where_the_first_one_cannot(self):
        one, two = (human(7, 1, "a", ("boss", "8")),), (human(8, 1, "b"),)
        self.falls(1, "link", 7, *one)
        self.done(*one, *two)

    def test_wrong_trees_stay_as_wrong(self):
        wrong = {1: entry(0, "cn", "a", ("human",)), 2: entry(1, "cn", "b", ("unit",)), 3: entry(1, "cn", "c", ("human",))}
        behind = self.done(("change", 3, (("put", "mail", "x"),)), tree=wrong)
        self.assertEqual(first_fault(self.schema, behind), (1, "place", "human"))


BOB = (("cn", "bob b"), ("cn", "ann"), ("cn", "TWO"), ("cn", "one"))
ANN = BOB[1:]
TWO = BOB[2:]


class WishTests(UnitTests):
    """Wishes [10.3]."""

    def test_is_wish(self):
        for value in (("add", 7, TWO, ("cn", "a"), ("unit",), (("cn", "a"),)), ("add", 7, (), ("cn", "a"), ("unit",), ()),
                      ("change", BOB, (("put", "boss", "cn=one"),)), ("change", (), ()), ("move", BOB, (), ("cn", "a"), True),
                      ("move", (), BOB, ("cn", "a"), False), ("remove", TWO), ("remove", ()), ("remove", (("cn", "a"),) * 8)):
            self.assertIs(is_wish(value), True, value)
            self.assertIs(is_deed(value), False)
        for value in (("add", TWO, TWO, ("cn", "a"), ("unit",), ()), ("add", 0, TWO, ("cn", "a"), ("unit",), ()),
                      ("add", 7, 1, ("cn", "a"), ("unit",), ()), ("add", 7, TWO, ("cn", "a"), (), ()), ("change", 1, ()),
                      ("move", TWO, 1, ("cn", "a"), True), ("move", 1, TWO, ("cn", "a"), True), ("move", TWO, TWO, ("cn", "a"), 1),
                      ("remove", 1), ("remove", (("cn", "a"),) * 9), ("remove", [("cn", "a")]), ("remove", (("cn", ""),)),
                      ("remove", TWO, TWO), ("remove",), ("add", 7), ("move", TWO), ("rename", TWO), [], "remove", ["remove", TWO]):
            self.assertIs(is_wish(value), False, value)
        for value in wrong_parts():
            self.assertIs(is_wish(("change", TWO, (value,))), False)
        for value in wrong_values():
            self.assertIs(is_wish(("remove", value)), value in ((), (("a", "b"),)))
        self.answers_all(is_wish)

    def test_resolved(self):
        for wish, deed in [
            (("remove", BOB), ("remove", 20)),
            (("remove", (("cn", " BOB  B "), *ANN)), ("remove", 20)),
            (("move", BOB, TWO, ("cn", "x"), True), ("move", 20, 2, ("cn", "x"), True)),
            (("move", BOB, (), ("cn", "x"), False), ("move", 20, 0, ("cn", "x"), False)),
            (("add", 77, TWO, ("cn", "x"), ("a", "b"), (("cn", "x"),)), ("add", 77, 2, ("cn", "x"), ("a", "b"), (("cn", "x"),))),
            (("add", 20, (), ("x", "x"), ("unit",), ()), ("add", 20, 0, ("x", "x"), ("unit",), ())),
            (("change", ANN, (("clear", "cn"), ("raise", "age", 4), ("extras", ("vip",)))),
             ("change", 10, (("clear", "cn"), ("raise", "age", 4), ("extras", ("vip",))))),
        ]:
            self.assertEqual(resolved(self.schema, self.tree, wish), deed)
            self.assertIs(is_deed(deed), True)

    def test_links(self):
        text, other = name_text(BOB), " cn = one "
        pairs = (("cn", text), ("boss", text), ("boss", "5"), ("mail", other), ("pal", other), ("x", text))
        told = resolved(self.schema, self.tree, ("add", 7, (), ("cn", text), ("unit",), pairs))
        self.assertEqual(told[5], (("cn", text), ("boss", "20"), ("boss", "5"), ("mail", other), ("pal", "1"), ("x", text)))
        self.assertEqual(told[3], ("cn", text))
        parts = (("put", "boss", text), ("drop", "pal", other), ("set", "boss", ("77", other, text)), ("set", "mail", (other,)),
                 ("put", "cn", text), ("drop", "x", text), ("clear", "boss"), ("set", "pal", ()))
        told = resolved(self.schema, self.tree, ("change", BOB, parts))
        self.assertEqual(told, ("change", 20, (
            ("put", "boss", "20"), ("drop", "pal", "1"), ("set", "boss", ("77", "1", "20")), ("set", "mail", (other,)),
            ("put", "cn", text), ("drop", "x", text), ("clear", "boss"), ("set", "pal", ()))))

    def test_texts_of_links_that_are_no_names(self):
        for text in ("0", "01", "x", "cn", "cn=", "=", "cn=a,", "cn=one=", "-5", str(10 ** 12 + 1)):
            wish = ("change", BOB, (("put", "boss", text),))
            self.assertEqual(resolved(self.schema, self.tree, wish), ("change", 20, (("put", "boss", text),)))

    def test_names_that_name_nothing(self):
        lost, gone = (("cn", "lost"),), (("cn", "Gone"), ("cn", "one"))
        one = (("cn", "one"),)
        for wish, name in [
            (("remove", lost), lost), (("remove", ()), ()), (("change", (), ()), ()), (("move", (), (), ("cn", "a"), True), ()),
            (("move", lost, gone, ("cn", "a"), True), lost), (("move", one, gone, ("cn", "a"), True), gone),
            (("add", 7, gone, ("cn", "a"), ("unit",), (("boss", "cn=lost"),)), gone),
            (("add", 7, one, ("cn", "a"), ("unit",), (("cn", "q"), ("boss", "cn=Gone, cn=one"), ("boss", "cn=lost"))), gone),
            (("add", 7, (), ("cn", "a"), ("unit",), (("boss", " "),)), ()),
            (("change", lost, (("put", "boss", "cn=x"),)), lost),
            (("change", one, (("put", "boss", "cn=lost"), ("put", "boss", "cn=x"))), lost),
            (("change", one, (("set", "boss", ("1", "cn=one", "cn=lost", "cn=x")), ("drop", "boss", "cn=y"))), lost),
            (("change", one, (("drop", "pal", "label=a"),)), (("label", "a"),)),
            (("change", one, (("put", "pal", "x=one"),)), (("x", "one"),)),
            (("add", 7, (), ("cn", "a"), ("unit",), (("boss", "cn=a"),)), (("cn", "a"),)),
        ]:
            caught = self.refuses(Refused, resolved, self.schema, self.tree, wish)
            self.assertEqual(caught.reason, name, wish)

    def test_resolved_unit(self):
        wishes = (
            ("add", 7, (), ("cn", "New"), ("unit",), (("cn", "New"),)),
            ("add", 8, (("cn", "NEW"),), ("cn", "Al"), ("human",), (("cn", "Al"), ("boss", "9"), ("pal", name_text(BOB)))),
            ("move", ANN, (("cn", "al"), ("cn", "new")), ("cn", "Ann"), False),
            ("change", (("cn", "bob b"), ("cn", "ann"), ("cn", "al"), ("cn", "new")), (("put", "boss", "cn=al,cn=new"),)),
            ("remove", (("cn", "FIVE"),)),
            ("add", 9, TWO, ("cn", "x"), ("human",), (("cn", "x"),)),
        )
        unit = resolved_unit(self.schema, self.tree, wishes)
        self.assertEqual(unit, (
            ("add", 7, 0, ("cn", "New"), ("unit",), (("cn", "New"),)),
            ("add", 8, 7, ("cn", "Al"), ("human",), (("cn", "Al"), ("boss", "9"), ("pal", "20"))),
            ("move", 10, 8, ("cn", "Ann"), False), ("change", 20, (("put", "boss", "8"),)), ("remove", 5),
            ("add", 9, 2, ("cn", "x"), ("human",), (("cn", "x"),)),
        ))
        self.assertIs(is_unit(unit), True)
        self.assertEqual(do_unit(self.schema, self.tree, unit)[0], "done")

    def test_wishes_that_cannot_be_resolved(self):
        five = ("remove", (("cn", "five"),))
        twice = self.refuses(Refused, resolved_unit, self.schema, self.tree, (five, five))
        self.assertEqual(twice.reason, (("cn", "five"),))
        full = ("remove", TWO)
        self.assertEqual(self.refuses(Refused, resolved_unit, self.schema, self.tree, (full, five)).reason, "beneath")
        self.assertEqual(self.refuses(Refused, resolved_unit, self.schema, self.tree, (full, full)).reason, "beneath")
        # Neither the last deed nor the rules are asked.
        self.assertEqual(resolved_unit(self.schema, self.tree, (five, full)), (("remove", 5), ("remove", 2)))
        wrong = ("add", 7, (), ("cn", "a"), ("human",), (("cn", "a"), ("boss", "99")))
        self.assertEqual(resolved_unit(self.schema, self.tree, (wrong, five)), ((*wrong[:2], 0, *wrong[3:]), ("remove", 5)))
        lost = ("remove", (("cn", "lost"),))
        self.assertEqual(self.refuses(Refused, resolved_unit, self.schema, self.tree, (lost, full)).reason, (("cn", "lost"),))
        self.assertEqual(self.refuses(Refused, resolved_unit, self.schema, self.tree, (full, lost)).reason, "beneath")

    def test_one_and_twenty_wishes(self):
        wish = ("change", BOB, ())
        for many in (1, 2, 20):
            self.assertEqual(resolved_unit(self.schema, self.tree, (wish,) * many), (("change", 20, ()),) * many)
        for wrong in ((), (wish,) * 21, [wish], wish, (REMOVE,), (wish, REMOVE)):
            self.refuses(InvalidDeed, resolved_unit, self.schema, self.tree, wrong)

    def test_wrong_arguments(self):
        self.refuses_each(resolved, [self.schema, self.tree, ("remove", BOB)], [
            (0, InvalidSchema, is_schema), (1, InvalidTree, is_empty_dict), (2, InvalidDeed, never)])
        self.refuses_each(resolved_unit, [self.schema, self.tree, (("remove", BOB),)], [
            (0, InvalidSchema, is_schema), (1, InvalidTree, is_empty_dict), (2, InvalidDeed, never)])
        for value in (ADD, REMOVE, ("change", 1, ()), ("remove", (("cn", "a"),) * 9)):
            self.refuses(InvalidDeed, resolved, self.schema, self.tree, value)


class AllBeneathTests(UnitTests):
    """Removing an entry with all beneath it."""

    def test_order(self):
        self.assertEqual(all_beneath(self.tree, 1), tuple([("remove", number) for number in (20, 10, 30, 2, 1)]))
        self.assertEqual(all_beneath(self.tree, 5), (("remove", 5),))
        self.assertEqual(all_beneath(chain_tree(8), 6), (("remove", 8), ("remove", 7), ("remove", 6)))
        tree = {9: entry(0, "cn", "a", ("unit",)), 3: entry(9, "cn", "a", ("unit",)), 10: entry(9, "cn", "b", ("unit",)),
                2: entry(10, "cn", "a", ("unit",)), 1: entry(3, "cn", "a", ("unit",))}
        self.assertEqual(all_beneath(tree, 9), tuple([("remove", number) for number in (1, 2, 3, 10, 9)]))

    def test_it_can_be_done(self):
        for number in self.tree:
            unit = all_beneath(self.tree, number)
            levels = [level(self.tree, deed[1]) for deed in unit]
            self.assertEqual(levels, sorted(levels, reverse=True))
            self.done(*unit)

    def test_wrong_arguments(self):
        self.refuses_each(all_beneath, [self.tree, 1], [
            (0, InvalidTree, is_empty_dict), (1, UnknownNumber, lambda value: value == 1 and not isinstance(value, bool))])
        self.assertEqual(self.refuses(UnknownNumber, all_beneath, self.tree, 0).asked, 0)
        self.refuses(InvalidTree, all_beneath, wide_tree(61), 1)
        self.assertEqual(len(all_beneath({**wide_tree(1), **{at: entry(1, "cn", f"n{at}", ("unit",)) for at in range(2, 61)}}, 1)), 60)


class PlainSchemaTests(Tests):
    """Units by the house's rules alone."""

    def test_groups_and_aliases(self):
        schema = Schema((Type("cn", "text"),), (Class("c", "shape", must=("cn",), named=("cn",), places=("", "c")),))
        group = ("add", 1, 0, ("label", "G"), ("group",), (("label", "G"), ("member", "2"), ("ground", "3")))
        alias = ("add", 2, 1, ("label", "A"), ("alias", "apart"), (("label", "A"), ("to", "1"), ("unshared", "cn")))
        inner = ("add", 3, 0, ("cn", "C"), ("c",), (("cn", "C"),))
        word, tree = do_unit(schema, {}, (group, alias, inner))
        self.assertEqual(word, "done")
        self.assertTrue(is_right(schema, tree))
        self.assertEqual(do_unit(schema, tree, (("remove", 3),)), ("done", {
            1: (0, ("label", "g"), ("group",), (("label", "g", "G"), ("member", "2", "2"))), 2: tree[2]}))
        self.assertEqual(do_unit(schema, tree, (("move", 3, 2, ("cn", "C"), False),)), ("fallen", 1, "place", 3))
