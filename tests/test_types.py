"""Tests of bailiwick.rules.types."""

import itertools
import random

from bailiwick.errors import InvalidOperation, InvalidWord
from bailiwick.rules import types
from bailiwick.rules.types import Type, house_types, type_fault
from tests.samples import Tests, never

HOUSE = {
    "label": ("text", True), "to": ("link", True), "ground": ("link", True), "member": ("link", False),
    "without": ("link", False), "whom": ("link", False), "chosen": ("exact", False), "of": ("exact", False),
    "unshared": ("exact", False), "may": ("exact", False), "what": ("exact", False), "who": ("exact", False),
    "least": ("number", True), "most": ("number", True), "rank": ("number", True), "grants": ("flag", True),
    "below": ("flag", True),
}


def is_some_word(value):
    """Whether a wrong value is a word all the same."""
    return isinstance(value, str) and value in ("a", "a" * 12)


def chain(many, kind="text"):
    """So many types, each but the first beneath the one ahead of it."""
    return tuple([Type(f"t{at}", kind, f"t{at - 1}" if at > 0 else None) for at in range(many)])


class TypeTests(Tests):
    """The class Type [0.8]."""

    def test_constants(self):
        self.assertEqual((types.MAX_TYPES, types.MAX_HIGH), (20, 4))

    def test_properties(self):
        plain = Type("cn", "text")
        self.assertEqual((plain.name, plain.kind, plain.above, plain.is_single), ("cn", "text", None, False))
        full = Type("a" * 12, "number", "b1", single=True)
        self.assertEqual((full.name, full.kind, full.above, full.is_single), ("a" * 12, "number", "b1", True))
        for kind in ("text", "exact", "number", "flag", "link"):
            self.assertEqual(Type("a", kind).kind, kind)

    def test_it_never_changes(self):
        made = Type("cn", "text")
        for name in ("name", "kind", "above", "is_single"):
            with self.assertRaises(AttributeError):
                setattr(made, name, "x")

    def test_equality(self):
        made = Type("a", "text", "b", single=True)
        self.equals_itself_alone(made, Type("a", "text", "b", single=True), [
            Type("c", "text", "b", single=True), Type("a", "exact", "b", single=True),
            Type("a", "text", "c", single=True), Type("a", "text", None, single=True), Type("a", "text", "b"),
        ])
        self.cannot_iterate(made)

    def test_wrong_arguments(self):
        self.refuses_each(Type, ["a", "text", None], [
            (0, InvalidWord, is_some_word), (1, InvalidOperation, never),
            (2, InvalidWord, lambda value: value is None or is_some_word(value)),
            ("single", InvalidOperation, lambda value: isinstance(value, bool)),
        ], single=False)
        for word in ("", "A", "1a", "a b", "a_b", "a" * 13, "a\n", "\xe9"):
            self.refuses(InvalidWord, Type, word, "text")
            self.refuses(InvalidWord, Type, "a", "text", word)
        for kind in ("Text", "", "word", None):
            self.refuses(InvalidOperation, Type, "a", kind)
        for single in (0, 1, None, "yes"):
            self.refuses(InvalidOperation, Type, "a", "text", single=single)

    def test_house_types(self):
        told = house_types()
        self.assertIsInstance(told, tuple)
        self.assertEqual([each.name for each in told], sorted(HOUSE))
        for each in told:
            self.assertIsInstance(each, Type)
            self.assertEqual((each.kind, each.is_single), HOUSE[each.name])
            self.assertIsNone(each.above)


def fault_by_the_table(rows):
    """The first fault of types by the words of [4.1], written down anew."""
    names = [each.name for each in rows]
    codes = {code: [] for code in ("twice", "above", "ring", "high")}
    for each in rows:
        if names.count(each.name) > 1 or each.name in HOUSE:
            codes["twice"].append(each.name)
        if each.above is not None and not any(x.name == each.above and x.kind == each.kind for x in rows):
            codes["above"].append(each.name)
    if codes["twice"] == [] and codes["above"] == []:
        uppers = {each.name: each.above for each in rows}
        for name in names:
            at, many = name, 0
            while at is not None and many < 100:
                at, many = uppers[at], many + 1
            if at is not None:
                codes["ring"].append(name)
            elif many > 4:
                codes["high"].append(name)
    for code in ("twice", "above", "ring", "high"):
        if codes[code]:
            return (code, min(codes[code]))
    return ("many", "") if len(rows) > 20 else None


class FaultTests(Tests):
    """The first fault of types [4.1]."""

    def test_none(self):
        self.assertIsNone(type_fault(()))
        self.assertIsNone(type_fault((Type("a", "text"),)))
        self.assertIsNone(type_fault(chain(4)))
        self.assertIsNone(type_fault(chain(4)[::-1]))

    def test_twice(self):
        self.assertEqual(type_fault((Type("b", "text"), Type("b", "exact"))), ("twice", "b"))
        self.assertEqual(type_fault((Type("b", "text"), Type("b", "text"))), ("twice", "b"))
        for name in HOUSE:
            self.assertEqual(type_fault((Type("zz", "text"), Type(name, "text"))), ("twice", name))
        rows = (Type("c", "text"), Type("b", "text"), Type("c", "text"), Type("b", "text"), Type("who", "text"))
        self.assertEqual(type_fault(rows), ("twice", "b"))

    def test_above(self):
        self.assertEqual(type_fault((Type("b", "text", "a"),)), ("above", "b"))
        self.assertEqual(type_fault((Type("a", "text"), Type("b", "exact", "a"))), ("above", "b"))
        # None stands beneath the types of the house.
        self.assertEqual(type_fault((Type("b", "text", "label"),)), ("above", "b"))
        self.assertEqual(type_fault((Type("d", "text", "x"), Type("c", "text", "x"))), ("above", "c"))

    def test_ring(self):
        self.assertEqual(type_fault((Type("b", "text", "b"),)), ("ring", "b"))
        rows = (Type("c", "text", "b"), Type("b", "text", "c"), Type("a", "text", "c"), Type("d", "text"))
        self.assertEqual(type_fault(rows), ("ring", "a"))
        self.assertEqual(type_fault(rows[:2] + rows[3:]), ("ring", "b"))

    def test_high(self):
        self.assertIsNone(type_fault(chain(4)))
        self.assertEqual(type_fault(chain(5)), ("high", "t4"))
        self.assertEqual(type_fault(chain(6)), ("high", "t4"))
        self.assertEqual(type_fault(chain(5) + (Type("a", "text", "t3"),)), ("high", "a"))

    def test_many(self):
        rows = tuple([Type(f"t{at}", "text") for at in range(21)])
        self.assertIsNone(type_fault(rows[:20]))
        self.assertEqual(type_fault(rows), ("many", ""))

    def test_order_of_codes(self):
        many = tuple([Type(f"m{at}", "text") for at in range(21)])
        ring = (Type("r", "text", "r"),)
        above = (Type("u", "text", "x"),)
        self.assertEqual(type_fault(many + chain(5)), ("high", "t4"))
        self.assertEqual(type_fault(chain(5) + ring), ("ring", "r"))
        self.assertEqual(type_fault(ring + above), ("above", "u"))
        self.assertEqual(type_fault(ring + above + (Type("z", "text"), Type("z", "text"))), ("twice", "z"))

    def test_as_the_table_tells(self):
        chance = random.Random(4)
        for _ in range(3000):
            rows = tuple([
                Type(chance.choice("abcdefg"), chance.choice(("text", "text", "text", "link")), chance.choice((None, *"abcdefg")))
                for _ in range(chance.randrange(7))
            ])
            self.assertEqual(type_fault(rows), fault_by_the_table(rows))
        for names in itertools.permutations("abcdef", 6):
            uppers = (None, *names)
            rows = tuple([Type(name, "text", upper) for name, upper in zip(names, uppers)])
            self.assertEqual(type_fault(rows), fault_by_the_table(rows))

    def test_wrong_arguments(self):
        def are_some(value):
            return isinstance(value, tuple) and all([isinstance(each, Type) for each in value])

        self.refuses_each(type_fault, [()], [(0, InvalidOperation, are_some)])
        self.refuses(InvalidOperation, type_fault, [Type("a", "text")])
        self.refuses(InvalidOperation, type_fault, (Type("a", "text"), "b"))
