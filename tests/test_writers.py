"""Tests of bailiwick.many.writers."""

import random

from bailiwick.errors import (
    InvalidDeed, InvalidLetter, InvalidOperation, InvalidSchema, InvalidTree, InvalidWord, Refused, TooMany, UnknownName, UnknownNumber,
)
from bailiwick.many import writers as module
from bailiwick.many.letters import are_letters, fold, horizon, settled
from bailiwick.many.writers import Writer
from bailiwick.rules.judge import is_right
from bailiwick.rules.schemas import Schema
from bailiwick.tree.trees import name_of
from tests.rulers import rule, ruling_schema, somebody
from tests.samples import Tests, entry, is_empty_dict, is_schema, never, sample_schema, sample_tree, wrong_values
from tests.test_deeds import wrong_deeds
from tests.test_histories import first_tree, some_unit
from tests.test_letters import deed, quiet
from tests.test_rights import ANYONE, SEE
from tests.test_types import is_some_word
from tests.test_units import add

NAMES = ("ann", "bob")


def are_some_names(value):
    """Whether a wrong value is a tuple of names of writers all the same."""
    return isinstance(value, tuple) and value in (("a",), ("a", "b"))


def is_tree_or_none(value):
    """Whether a wrong value is a first tree all the same."""
    return value is None or is_empty_dict(value)


def state_of(writer):
    """All that a writer tells."""
    return (writer.name, writer.names, writer.letters, writer.tree, writer.fates, writer.horizon, writer.settled, writer.settled_tree)


class WriterTests(Tests):
    """Tests with writers of the sample tree."""

    def setUp(self):
        self.schema = sample_schema()
        self.tree = sample_tree()
        self.ann, self.bob = self.group()

    def group(self, names=NAMES, tree=None):
        """The writers of a group."""
        return [Writer(name, names, self.schema, self.tree if tree is None else tree) for name in names]

    def agrees(self, writer, schema=None, tree=None):
        """Tests all that a writer tells against the fold of its letters."""
        schema, tree = schema or self.schema, self.tree if tree is None else tree
        letters = writer.letters
        self.assertTrue(are_letters(letters))
        units = [letter for letter in letters if letter[0] == "deed"]
        quiets = [letter for letter in letters if letter[0] == "quiet"]
        self.assertEqual(letters, (*sorted(units, key=lambda each: (each[3], each[1])), *sorted(quiets)))
        self.assertEqual((writer.tree, writer.fates), fold(schema, tree, letters))
        self.assertEqual(list(writer.fates), sorted(writer.fates))
        self.assertEqual(list(writer.tree), sorted(writer.tree))
        self.assertTrue(is_right(schema, writer.tree))
        self.assertEqual((writer.horizon, writer.settled), (horizon(writer.names, letters), settled(writer.names, letters)))
        kept = tuple([letter for letter in units if (letter[3], letter[1]) in writer.settled])
        self.assertEqual(writer.settled_tree, fold(schema, tree, kept)[0])
        self.assertEqual({stamp: writer.fates[stamp] for stamp in writer.settled}, fold(schema, tree, kept)[1])

    def hears(self, writer, letter, *told):
        """Tests what is told when a writer hears a letter, and that it changes nothing when it is heard twice."""
        elder = writer.fates
        self.assertEqual(writer.hear(letter), told)
        newer = writer.fates
        self.assertEqual(told, tuple([(stamp, elder.get(stamp), newer[stamp]) for stamp in sorted(newer) if elder.get(stamp) != newer[stamp]]))
        self.agrees(writer)
        state = state_of(writer)
        self.assertEqual(writer.hear(letter), ())
        self.assertEqual(state_of(writer), state)

    def makes(self, writer, who, *unit):
        """Makes a unit that stands, and returns its letter."""
        before = state_of(writer)
        letter = writer.make(who, unit)
        self.assertEqual((letter[0], letter[1], letter[4:]), ("deed", writer.name, (who, unit)))
        self.assertEqual(writer.fates, {**before[4], (letter[3], letter[1]): ("stands",)})
        self.agrees(writer)
        return letter

    def stays(self, writer, error, call, *args):
        """Tests that a call is refused and leaves the writer as it is; returns the error."""
        before = state_of(writer)
        caught = self.refuses(error, call, *args)
        self.assertEqual(state_of(writer), before)
        return caught


class MakeTests(WriterTests):
    """What a writer makes [27.2, 27.3]."""

    def test_constant(self):
        self.assertEqual(module.MAX_LETTERS, 120)

    def test_example(self):
        ann = Writer("ann", ("ann", "bob"), Schema((), ()))
        told = [ann.letters, ann.horizon, ann.settled, ann.quiet(), ann.horizon, ann.fates]
        self.assertEqual(told, [(), (1, "ann"), (), ("quiet", "ann", 0, 0), (1, "ann"), {}])

    def test_first(self):
        self.assertEqual(state_of(self.ann), ("ann", NAMES, (), self.tree, {}, (1, "ann"), (), self.tree))
        self.agrees(self.ann)
        for writer in (Writer("a", ("a",), self.schema), Writer("a", ("a",), self.schema, None), Writer("a", ("a",), self.schema, {})):
            self.assertEqual((writer.tree, writer.settled_tree, writer.letters), ({}, {}, ()))
        backward = {number: self.tree[number] for number in sorted(self.tree, reverse=True)}
        self.assertEqual(list(Writer("a", ("a",), self.schema, backward).tree), sorted(self.tree))

    def test_make(self):
        one, two = add(7, 0, "x"), ("remove", 5)
        self.assertEqual(self.makes(self.ann, 0, one), ("deed", "ann", 1, 1, 0, (one,)))
        self.assertEqual(self.makes(self.ann, 0, two, ("change", 7, (("put", "mark", "3"),))), ("deed", "ann", 2, 2, 0, (two, ("change", 7, (("put", "mark", "3"),)))))
        self.assertEqual((self.ann.fates, self.ann.horizon), ({(1, "ann"): ("stands",), (2, "ann"): ("stands",)}, (1, "bob")))

    def test_a_unit_that_falls(self):
        told = [((("remove", 77),), ("fallen", 0, "unknown")), ((("remove", 5), ("remove", 5)), ("fallen", 1, "unknown")), ((add(8, 0, "c", ("human",)),), ("fallen", 1, "place")),
                ((add(5, 0, "c"),), ("fallen", 0, "used"))]
        for unit, fate in told:
            before = state_of(self.ann)
            self.assertEqual(self.ann.make(0, unit), fate)
            self.assertEqual(state_of(self.ann), before)
        self.makes(self.ann, 0, add(7, 0, "x"))
        self.makes(self.ann, 0, ("remove", 7))
        self.assertEqual(self.ann.make(0, (add(7, 0, "x"),)), ("fallen", 0, "used"))
        self.makes(self.ann, 0, ("remove", 5))
        self.assertEqual(self.ann.make(0, (add(5, 0, "x"),)), ("fallen", 0, "used"))
        self.assertEqual(len(self.ann.letters), 3)

    def test_who(self):
        self.assertEqual(self.ann.make(None, (("remove", 5),)), ("fallen", 0, "absent"))
        self.assertEqual(self.ann.make(10, (("remove", 5),)), ("fallen", 0, "absent"))
        self.makes(self.ann, 0, ("remove", 5))
        self.assertEqual(self.stays(self.ann, UnknownNumber, self.ann.make, 5, (("remove", 30),)).asked, 5)
        self.makes(self.ann, 0, add(7, 0, "x"))
        self.assertEqual(self.ann.make(7, (("remove", 30),)), ("fallen", 0, "absent"))

    def test_counts(self):
        # One more than the greatest count of all letters, quiet ones and those of others too.
        self.ann.hear(deed("bob", 1, 7, 0, (("remove", 30),)))
        self.assertEqual(self.makes(self.ann, 0, ("remove", 5))[3], 8)
        self.ann.hear(quiet("bob", 1, 20))
        self.assertEqual(self.makes(self.ann, 0, add(7, 0, "x"))[3], 21)
        self.ann.hear(deed("bob", 3, 900, 0, (("remove", 77),)))
        self.assertEqual(self.makes(self.ann, 0, add(8, 0, "y"))[2:4], (3, 901))

    def test_quiet(self):
        self.assertEqual(self.ann.quiet(), ("quiet", "ann", 0, 0))
        self.assertEqual(self.ann.letters, (("quiet", "ann", 0, 0),))
        self.assertEqual(self.ann.quiet(), ("quiet", "ann", 0, 0))
        self.assertEqual(len(self.ann.letters), 1)
        self.makes(self.ann, 0, ("remove", 5))
        self.assertEqual(self.ann.quiet(), ("quiet", "ann", 1, 1))
        self.ann.hear(deed("bob", 1, 9, 0, (("remove", 30),)))
        self.assertEqual(self.ann.quiet(), ("quiet", "ann", 1, 9))
        self.agrees(self.ann)
        self.assertEqual(self.ann.letters[2:], (quiet("ann", 0, 0), quiet("ann", 1, 1), quiet("ann", 1, 9)))
        # A quiet letter of its own makes the next count greater.
        self.ann.hear(quiet("bob", 1, 30))
        self.assertEqual(self.ann.quiet(), ("quiet", "ann", 1, 30))
        self.assertEqual(self.makes(self.ann, 0, add(7, 0, "x"))[3], 31)

    def test_everything_is_settled(self):
        # [27.2]: if all have heard all units, tell a quiet letter then, and hear those of all others.
        writers = self.group(("ann", "bob", "cy"))
        letters = [writers[0].make(0, (add(7, 0, "x"),)), writers[1].make(0, (("remove", 5),)), writers[2].make(0, (("remove", 30),)), writers[2].make(0, (add(8, 0, "y"),))]
        for writer in writers:
            for letter in letters:
                writer.hear(letter)
        quiets = [writer.quiet() for writer in writers]
        for writer in writers:
            for letter in quiets:
                writer.hear(letter)
            self.assertEqual(writer.settled, tuple(writer.fates))
            self.assertEqual(writer.settled_tree, writer.tree)
            self.agrees(writer)

    def test_sixty_units(self):
        for at in range(60):
            self.assertEqual(self.ann.make(0, (("change", 5, (("set", "cn", ("five", f"a{at}")),)),))[2:4], (at + 1, at + 1))
        change = (("change", 5, (("put", "cn", "z"),)),)
        self.assertEqual(self.stays(self.ann, TooMany, self.ann.make, 0, change).most, 60)
        # Also if the unit would fall, but not ahead of what is wrong with it.
        self.assertEqual(self.stays(self.ann, TooMany, self.ann.make, 0, (("remove", 77),)).most, 60)
        self.stays(self.ann, UnknownNumber, self.ann.make, 77, change)
        self.stays(self.ann, InvalidDeed, self.ann.make, 0, ())
        for at in range(60):
            self.bob.hear(self.ann.letters[at])
        self.assertEqual(self.bob.make(0, change)[2:4], (1, 61))
        self.agrees(self.ann)
        # Sixty units ahead of 120 letters.
        for at in range(60):
            self.ann.hear(quiet("bob", 0, at))
        self.assertEqual(len(self.ann.letters), 120)
        self.assertEqual(self.stays(self.ann, TooMany, self.ann.make, 0, change).most, 60)
        self.assertEqual(self.stays(self.ann, TooMany, self.ann.quiet).most, 120)

    def test_120_letters(self):
        for at in range(118):
            self.assertEqual(self.ann.hear(quiet("bob", 0, at)), ())
        change = (("change", 5, (("put", "cn", "z"),)),)
        self.assertEqual(self.ann.quiet(), quiet("ann", 0, 117))
        self.assertEqual(self.ann.make(0, change)[3], 118)
        self.assertEqual(len(self.ann.letters), 120)
        self.assertEqual(self.stays(self.ann, TooMany, self.ann.make, 0, change).most, 120)
        self.assertEqual(self.stays(self.ann, TooMany, self.ann.quiet).most, 120)
        self.assertEqual(self.stays(self.ann, TooMany, self.ann.hear, quiet("bob", 0, 500)).most, 120)
        self.assertEqual(self.stays(self.ann, TooMany, self.ann.hear, deed("bob", 1, 500, 0, change)).most, 120)
        # What is kept already can be told and heard; what is refused for another reason is so first.
        self.assertEqual(self.ann.hear(quiet("bob", 0, 3)), ())
        self.assertEqual(self.ann.hear(self.ann.letters[0]), ())
        self.assertEqual(self.stays(self.ann, Refused, self.ann.hear, deed("bob", 1, 5, 0, change)).reason, "unlike")
        self.assertEqual(self.stays(self.ann, Refused, self.ann.hear, deed("ann", 5, 900, 0, change)).reason, "own")
        twin = self.ann.twin()
        self.assertEqual(self.stays(twin, TooMany, twin.quiet).most, 120)
        # A quiet letter that is kept already, in a full writer.
        full = Writer("ann", NAMES, self.schema, self.tree)
        for at in range(119):
            full.hear(quiet("bob", 0, at))
        self.assertEqual(full.quiet(), quiet("ann", 0, 118))
        self.assertEqual((len(full.letters), full.quiet(), len(full.letters)), (120, quiet("ann", 0, 118), 120))

    def test_the_greatest_count(self):
        self.ann.hear(quiet("bob", 0, 10 ** 6 - 1))
        change = (("change", 5, (("put", "cn", "z"),)),)
        self.assertEqual(self.makes(self.ann, 0, *change)[3], 10 ** 6)
        self.assertEqual(self.stays(self.ann, TooMany, self.ann.make, 0, change).most, 10 ** 6)
        self.assertEqual(self.ann.quiet(), quiet("ann", 1, 10 ** 6))
        self.assertEqual(self.stays(self.ann, TooMany, self.ann.make, 0, (("remove", 77),)).most, 10 ** 6)
        self.bob.hear(quiet("ann", 0, 10 ** 6))
        self.assertEqual(self.stays(self.bob, TooMany, self.bob.make, 0, change).most, 10 ** 6)

    def test_free_number(self):
        # Numbers leave the index of the name when they are divided by the number of writers.
        names = ("a", "b", "c", "d")
        writers = self.group(names, {})
        self.assertEqual([writer.free_number() for writer in writers], [4, 1, 2, 3])
        self.assertEqual([writer.free_number() for writer in self.group(("a",), {})], [1])
        self.assertEqual([writer.free_number() for writer in self.group(NAMES)], [4, 3])
        self.assertEqual([writer.free_number() for writer in self.group(("a", "b", "c"))], [3, 4, 8])
        # What an add of a kept letter has is not free, whether its unit stands or not; what was only asked for is.
        letter = self.ann.make(0, (add(4, 0, "x"), add(6, 0, "y")))
        self.assertEqual(self.ann.free_number(), 8)
        self.ann.make(0, (add(8, 0, "x"),))
        self.assertEqual(self.ann.free_number(), 8)
        self.ann.make(0, (("remove", 4),))
        self.assertEqual(self.ann.free_number(), 8)
        self.ann.hear(deed("bob", 1, 50, 0, (("remove", 14), ("change", 16, ()), add(8, 0, "q"), add(12, 0, "r"))))
        self.assertEqual(self.ann.fates[(50, "bob")], ("fallen", 0, "unknown"))
        # 10 is in the first tree.
        self.assertEqual(self.ann.free_number(), 14)
        self.bob.hear(letter)
        self.assertEqual(self.bob.free_number(), 3)
        self.ann.make(0, (("remove", 10),))
        self.assertEqual(self.ann.free_number(), 14)

    def test_wrong_arguments(self):
        right = [(0, InvalidWord, is_some_word), (1, InvalidOperation, are_some_names), (2, InvalidSchema, is_schema), (3, InvalidTree, is_tree_or_none)]
        self.refuses_each(Writer, ["ann", NAMES, self.schema, self.tree], right)
        for names in ((), ("bob", "ann"), ("ann", "ann"), ("a", "ann", "b", "c", "d"), ["ann"], "ann", None, ("ann", "Bob")):
            self.refuses(InvalidOperation, Writer, "ann", names, None)
        faulty = {1: entry(0, "cn", "a", ("human",))}
        self.refuses(InvalidTree, Writer, "ann", NAMES, self.schema, faulty)
        self.refuses(InvalidTree, Writer, "ann", NAMES, Schema((), ()), self.tree)
        self.assertEqual(self.refuses(UnknownName, Writer, "cy", NAMES, self.schema).asked, "cy")
        self.refuses(InvalidTree, Writer, "cy", NAMES, self.schema, faulty)
        self.refuses_each(self.ann.make, [0, (("remove", 5),)], [
            (0, UnknownNumber, lambda value: value is None or (value in (0, 1) and not isinstance(value, bool))), (1, InvalidDeed, never)])
        for each in wrong_deeds():
            self.stays(self.ann, InvalidDeed, self.ann.make, 0, (each,))
        self.stays(self.ann, InvalidDeed, self.ann.make, 0, (("remove", 5),) * 21)


class HearTests(WriterTests):
    """What a writer hears [27.1, 27.3, 0.22]."""

    def test_hear(self):
        one = self.makes(self.ann, 0, add(7, 0, "x"))
        self.hears(self.bob, one, ((1, "ann"), None, ("stands",)))
        two = self.makes(self.bob, 0, ("change", 7, (("put", "mark", "3"),)))
        self.assertEqual(two[3], 2)
        self.hears(self.ann, two, ((2, "bob"), None, ("stands",)))
        self.assertEqual(state_of(self.ann)[2:], state_of(self.bob)[2:])
        self.hears(self.bob, quiet("ann", 1, 5))

    def test_late(self):
        # The past is woven anew: what stood can fall, and what fell can stand.
        one = self.makes(self.ann, 0, ("remove", 5))
        late = deed("bob", 1, 1, 0, (("change", 5, (("put", "mark", "3"),)),))
        self.hears(self.ann, late, ((1, "bob"), None, ("fallen", 0, "unknown")))
        other = deed("bob", 2, 3, 0, (add(8, 7, "y"),))
        self.hears(self.ann, other, ((3, "bob"), None, ("fallen", 0, "unknown")))
        cy = Writer("cy", ("ann", "bob", "cy"), self.schema, self.tree)
        for letter in (other, deed("bob", 3, 4, 0, (add(9, 8, "z"),)), deed("bob", 4, 5, 0, (add(7, 0, "w"),))):
            cy.hear(letter)
        self.assertEqual([fate[0] for fate in cy.fates.values()], ["fallen", "fallen", "stands"])
        self.hears(cy, deed("ann", 1, 2, 0, (add(7, 0, "x"),)), ((2, "ann"), None, ("stands",)), ((3, "bob"), ("fallen", 0, "unknown"), ("stands",)),
                   ((4, "bob"), ("fallen", 0, "unknown"), ("stands",)), ((5, "bob"), ("stands",), ("fallen", 0, "used")))
        self.hears(cy, late, ((1, "bob"), None, ("stands",)))
        self.hears(cy, deed("ann", 2, 6, 0, (("remove", 5), ("remove", 9))), ((6, "ann"), None, ("stands",)))
        self.assertEqual(self.bob.hear(one), (((1, "ann"), None, ("stands",)),))

    def test_own_letters(self):
        one = self.makes(self.ann, 0, ("remove", 5))
        self.assertEqual(self.ann.hear(one), ())
        self.ann.quiet()
        self.assertEqual(self.ann.hear(quiet("ann", 1, 1)), ())
        for letter in (deed("ann", 2, 2, 0, (("remove", 30),)), deed("ann", 1, 1, 0, (("remove", 30),)), quiet("ann", 1, 2), quiet("ann", 0, 0), deed("ann", 1, 5)):
            self.assertEqual(self.stays(self.ann, Refused, self.ann.hear, letter).reason, "own")
        self.assertEqual(self.stays(self.bob, Refused, self.bob.hear, quiet("bob", 0, 0)).reason, "own")

    def test_letters_that_do_not_go_together(self):
        self.ann.hear(deed("bob", 2, 5, 0, (("remove", 5),)))
        for letter in (deed("bob", 2, 5, 0, (("remove", 30),)), deed("bob", 1, 5), deed("bob", 1, 6), deed("bob", 3, 5), deed("bob", 3, 4), deed("bob", 2, 6, 0, (("remove", 5),)),
                       quiet("bob", 1, 5), quiet("bob", 2, 4), quiet("bob", 0, 9), deed("bob", 2, 5, None, (("remove", 5),))):
            self.assertEqual(self.stays(self.ann, Refused, self.ann.hear, letter).reason, "unlike")
        self.ann.hear(quiet("bob", 2, 7))
        for letter in (deed("bob", 3, 7), quiet("bob", 3, 7), quiet("bob", 1, 7)):
            self.assertEqual(self.stays(self.ann, Refused, self.ann.hear, letter).reason, "unlike")
        self.hears(self.ann, quiet("bob", 2, 6))
        self.hears(self.ann, quiet("bob", 1, 4))
        self.hears(self.ann, deed("bob", 1, 4, 0, (("remove", 30),)), ((4, "bob"), None, ("stands",)))

    def test_wrong_letters(self):
        self.refuses_each(self.ann.hear, [quiet("bob", 0, 0)], [(0, InvalidLetter, never)])
        for letter in (quiet("cy", 0, 0), deed("cy", 1, 1), quiet("b", 0, 0)):
            self.assertEqual(self.stays(self.ann, UnknownName, self.ann.hear, letter).asked, letter[1])
        for each in wrong_deeds():
            self.stays(self.ann, InvalidLetter, self.ann.hear, deed("bob", 1, 1, 0, (each,)))
        self.stays(self.ann, InvalidLetter, self.ann.hear, deed("cy", 0, 1))
        self.stays(self.ann, InvalidLetter, self.ann.hear, (quiet("bob", 0, 0),))

    def meet(self, one, other, first, second):
        """Tests which of two units, made at the same count, stands in both orders of hearing."""
        ann, bob = self.group()
        letters = self.makes(ann, 0, *one), self.makes(bob, 0, *other)
        self.assertEqual((letters[0][3], letters[1][3]), (1, 1))
        ann.hear(letters[1])
        bob.hear(letters[0])
        self.assertEqual(state_of(ann)[2:], state_of(bob)[2:])
        self.assertEqual(list(ann.fates.values()), [first, second])
        self.agrees(ann)
        return ann

    def test_clashes(self):
        stands = ("stands",)
        move, back = ("move", 2, 5, ("cn", "two"), True), ("move", 5, 2, ("cn", "five"), True)
        # Of two moves that together would make a ring, just the one with the lesser stamp stands.
        writer = self.meet([move], [back], stands, ("fallen", 0, "ring"))
        self.assertEqual(name_of(writer.tree, 2), (("cn", "two"), ("cn", "five")))
        writer = self.meet([back], [move], stands, ("fallen", 0, "ring"))
        self.assertEqual(name_of(writer.tree, 5), (("cn", "five"), ("cn", "two"), ("cn", "one")))
        # Two adds of one name, and of one number.
        self.meet([add(7, 0, "x")], [add(8, 0, "X")], stands, ("fallen", 0, "taken"))
        self.meet([add(7, 0, "x")], [add(7, 0, "y")], stands, ("fallen", 0, "used"))
        # A removal and an add beneath it.
        self.meet([("remove", 5)], [add(7, 5, "x")], stands, ("fallen", 0, "unknown"))
        self.meet([add(7, 5, "x")], [("remove", 5)], stands, ("fallen", 0, "beneath"))
        # Links to what another one removes.
        self.meet([("remove", 20)], [("change", 10, (("put", "boss", "20"),))], stands, ("fallen", 1, "link"))
        self.meet([("change", 10, (("put", "boss", "20"),))], [("remove", 20)], stands, stands)
        self.meet([("change", 5, (("put", "mark", "1"),))], [("change", 5, (("put", "mark", "2"),))], stands, stands)
        self.meet([("remove", 5)], [("remove", 5)], stands, ("fallen", 0, "unknown"))

    def test_rights_that_another_one_takes_away(self):
        self.schema, self.tree = ruling_schema(), first_tree()
        bar = rule(0, "x", ("rank", 5), SEE, ("may", "write"), ("what", "mail"), ANYONE)
        pairs = tuple([(word, text) for word, form, text in bar[3]])
        takes = [("add", 77, 0, ("label", "x"), ("rule",), pairs)]
        change = [("change", 5, (("put", "mail", "q"),))]
        ann, bob = self.group()
        one, two = ann.make(0, tuple(takes)), bob.make(3, tuple(change))
        self.assertEqual((one[0], two[0]), ("deed", "deed"))
        ann.hear(two)
        bob.hear(one)
        self.assertEqual(ann.fates, {(1, "ann"): ("stands",), (1, "bob"): ("fallen", 0, "denied")})
        self.assertEqual(state_of(ann)[2:], state_of(bob)[2:])
        # Somebody whose entry another one removes.
        ann, bob = self.group()
        one, two = ann.make(0, (("remove", 4),)), bob.make(4, tuple(change))
        bob.hear(one)
        self.assertEqual(bob.fates, {(1, "ann"): ("stands",), (1, "bob"): ("stands",)})
        ann.hear(two)
        self.assertEqual(state_of(ann)[2:], state_of(bob)[2:])

    def test_free_numbers_never_meet(self):
        names = ("a", "b", "c")
        writers = self.group(names)
        letters = []
        for at in range(12):
            for writer in writers:
                made = writer.make(0, (add(writer.free_number(), 0, f"{writer.name}{at}"),))
                self.assertEqual(made[0], "deed")
                letters.append(made)
        rng = random.Random("free numbers")
        for writer in writers:
            for letter in rng.sample(letters, len(letters)):
                writer.hear(letter)
            self.assertEqual({fate for fate in writer.fates.values()}, {("stands",)})
            self.assertEqual(writer.tree, writers[0].tree)
        self.assertEqual(len(writers[0].tree), len(self.tree) + 36)

    def test_twin(self):
        self.makes(self.ann, 0, ("remove", 5))
        self.ann.hear(deed("bob", 1, 4, 0, (("remove", 30),)))
        self.ann.quiet()
        twin = self.ann.twin()
        self.assertIsInstance(twin, Writer)
        self.assertEqual(state_of(twin), state_of(self.ann))
        self.assertEqual(twin.free_number(), self.ann.free_number())
        self.equals_itself_alone(self.ann, twin, [])
        one = self.makes(self.ann, 0, add(7, 0, "x"))
        self.assertEqual(len(twin.letters), 3)
        self.assertIs(twin == self.ann, False)
        self.assertEqual(self.makes(twin, 0, add(7, 0, "x")), one)
        self.assertIs(twin == self.ann, True)
        twin.hear(deed("bob", 2, 9, 0, (("remove", 7),)))
        self.assertEqual(len(self.ann.letters), 4)
        self.agrees(self.ann)

    def test_equality(self):
        ann, again = self.group()[0], self.group()[0]
        lone = Writer("ann", ("ann",), self.schema, self.tree)
        empty = Writer("ann", NAMES, self.schema)
        plain = Writer("ann", NAMES, Schema((), ()))
        told, quieter = self.group()[0], self.group()[0]
        told.make(0, (("remove", 5),))
        quieter.quiet()
        self.equals_itself_alone(ann, again, [self.bob, lone, empty, plain, told, quieter])
        self.equals_itself_alone(empty, Writer("ann", NAMES, self.schema, {}), [plain, Writer("bob", NAMES, self.schema), ann])
        # The order in which letters were heard means nothing.
        one, two = deed("bob", 1, 4, 0, (("remove", 30),)), quiet("bob", 0, 2)
        ann.hear(one)
        ann.hear(two)
        again.hear(two)
        again.hear(one)
        again.hear(one)
        self.equals_itself_alone(ann, again, [told, quieter])
        self.cannot_iterate(ann)

    def test_nothing_gives_access(self):
        tree = sample_tree()
        writer = Writer("ann", NAMES, self.schema, tree)
        tree.clear()
        self.makes(writer, 0, ("remove", 5))
        for held in (writer.tree, writer.fates, writer.settled_tree):
            held.clear()
        self.agrees(writer)
        twin = writer.twin()
        twin.tree.clear()
        self.assertEqual(twin, writer)
        # Nothing that bob still makes can come ahead of this.
        self.assertEqual((writer.settled, writer.settled_tree), (((1, "ann"),), writer.tree))

    def test_histories(self):
        # [0.22]: who has heard the same letters, in whatever order, twice or late, tells the same.
        self.schema = ruling_schema()
        fallen = 0
        for seed in range(8):
            rng = random.Random(f"writers {seed}")
            self.tree = first_tree()
            names = ("ann", "bob", "cy", "dan")[:rng.randrange(2, 5)]
            writers = self.group(names)
            letters = []
            for at in range(50):
                writer = rng.choice(writers)
                way = rng.randrange(7)
                if way < 4:
                    who = rng.choice((0, 0, somebody(rng, writer.tree)))
                    number = rng.choice((writer.free_number(), rng.randrange(110, 130)))
                    at_once = (("move", rng.choice((2, 3, 4, 5)), rng.choice((1, 2, 3, 4, 5, 6)), ("cn", f"n{rng.randrange(3)}"), True),)
                    unit = rng.choice((at_once, some_unit(rng, self.schema, writer.tree, number)))
                    told = writer.make(who, unit)
                    if told[0] == "deed":
                        self.assertEqual(writer.fates[told[3], told[1]], ("stands",))
                        letters.append(told)
                elif way == 4 and rng.randrange(3) == 0:
                    letters.append(writer.quiet())
                elif letters:
                    letter = rng.choice(letters)
                    stamps, bound, elder = writer.settled, writer.horizon, writer.fates
                    changes = writer.hear(letter)
                    # What is settled never changes.
                    self.assertEqual({stamp: writer.fates[stamp] for stamp in stamps}, {stamp: elder[stamp] for stamp in stamps})
                    self.assertLessEqual(set(stamps), set(writer.settled))
                    self.assertGreaterEqual(writer.horizon, bound)
                    self.assertTrue(all(stamp not in stamps for stamp, one, other in changes))
                self.assertTrue(is_right(self.schema, writer.tree))
                if at % 25 == 9:
                    self.agrees(writer)
            for writer in writers:
                for letter in rng.sample(letters, len(letters)):
                    writer.hear(letter)
                self.agrees(writer)
                self.assertEqual(state_of(writer)[2:], state_of(writers[0])[2:])
            fallen += len([fate for fate in writers[0].fates.values() if fate[0] == "fallen"])
            # All have heard all units: once all are quiet, everything is settled.
            quiets = [writer.quiet() for writer in writers]
            for writer in writers:
                for letter in quiets:
                    writer.hear(letter)
                self.assertEqual(writer.settled, tuple(writer.fates))
        self.assertGreater(fallen, 10)

    def test_other_numbers(self):
        # Other numbers in the place of all numbers tell the same but for the numbers.
        def other(number):
            return number * 1000 + 7

        def turned(value):
            return {other(number): (other(made[0]) if made[0] else 0, *made[1:]) for number, made in value.items()}

        tree = {number + 100: (made[0] + 100 if made[0] else 0, *made[1:]) for number, made in sample_tree().items()}
        tree = {number: (*made[:3], tuple([value for value in made[3] if value[0] not in ("boss", "pal")])) for number, made in tree.items()}
        for seed in range(10):
            rng = random.Random(f"other numbers {seed}")
            one = [Writer(name, NAMES, self.schema, tree) for name in NAMES]
            two = [Writer(name, NAMES, self.schema, turned(tree)) for name in NAMES]
            for at in range(14):
                which = rng.randrange(2)
                number, above = rng.choice(sorted(tree)), rng.choice((0, *sorted(tree)))
                unit = rng.choice(((("remove", number),), (("move", number, above, ("cn", f"n{at % 3}"), True),), (add(200 + at % 5, above, f"a{at % 4}"),)))
                mapped = tuple([(each[0], other(each[1]), *((other(each[2]) if each[2] else 0, *each[3:]) if len(each) > 2 else ())) for each in unit])
                told = one[which].make(0, unit), two[which].make(0, mapped)
                self.assertEqual(told[0][:5], told[1][:5])
                if rng.randrange(2):
                    for group in (one, two):
                        for letter in group[which].letters:
                            group[1 - which].hear(letter)
                for first, second in zip(one, two):
                    self.assertEqual((turned(first.tree), first.fates, first.horizon, first.settled), (second.tree, second.fates, second.horizon, second.settled))

    def test_wrong_values_change_nothing(self):
        self.makes(self.ann, 0, ("remove", 5))
        before = state_of(self.ann)
        for value in wrong_values():
            self.refuses(InvalidLetter, self.ann.hear, value)
            self.refuses(InvalidDeed, self.ann.make, 0, value)
        self.assertEqual(state_of(self.ann), before)
