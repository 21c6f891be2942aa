"""What several tests share: a schema, a tree, wrong values, and how refusals are tested."""

import copy
import unittest

from bailiwick.ask.indexes import Index
from bailiwick.ask.pages import Kept
from bailiwick.ask.search import Search
from bailiwick.ask.watches import Watch
from bailiwick.copy.copies import Copy
from bailiwick.copy.rows import Row
from bailiwick.errors import InvalidNumber, InvalidText, InvalidWord, UnknownNumber
from bailiwick.far.guides import Guide
from bailiwick.far.holdings import cut_tree
from bailiwick.many.writers import Writer
from bailiwick.rules.schemas import Class, Schema
from bailiwick.rules.types import Type
from bailiwick.text.shell import Shell
from bailiwick.tree.directory import Directory

KEPT = {InvalidText: "value", InvalidWord: "value", InvalidNumber: "value", UnknownNumber: "asked"}


def nested(depth):
    """Tuples, lists and dicts within one another, so many deep."""
    value = ("a",)
    for at in range(depth - 1):
        value = [(value, 1), [value, None], {"a": value}][at % 3]
    return value


def wrong_values():
    """Values of every kind that can be passed, few of which are right anywhere."""
    return [
        10 ** 39, -(10 ** 39), 10 ** 39 + 7, 0, 1, -1, 10 ** 12, 10 ** 12 + 1, True, False, None,
        "", " ", "a", "A", "1", "a" * 12, "a" * 13, "a" * 100, "a" * 101, "x" * 400, "a\n", "\n", "a\nb" * 100, "0", "-0",
        (), [], {}, ("a",), ("a", "b"), ["a", "b"], ("b", "a"), ("a", "a"), (1, 2), [1], {1: 2}, {"a": "b"},
        (("a", "b"),), [("a", "b")], (True,), (None,), ("",), ("a\n",), (10 ** 39,), {10 ** 39: ()}, {True: None},
        Type("a", "text"), Class("a", "frame"), Schema((), ()), (Type("a", "text"),), [Class("a", "frame")],
        InvalidWord("a"), (InvalidText("a"),), nested(8), [nested(7)], {"a": nested(7)}, (nested(7), nested(7)),
        *wrong_objects(),
    ]


def wrong_objects():
    """Objects of the package that keep something, alone and within other values."""
    schema = Schema((), ())
    index, watch = Index(schema, {}), Watch(schema, {}, Search(0))
    return [
        Directory(schema), Search(0), index, Kept(schema, {}, Search(0), (("label", "up"),)), watch,
        (Search(0),), [index], {1: watch}, ("and", (index,)), *wrong_far_objects(schema),
    ]


def wrong_far_objects(schema):
    """Servers and what else tells trees to other places, alone and within other values."""
    servers = cut_tree(schema, {}, {0: "a"})
    writer = Writer("a", ("a",), schema)
    return [servers["a"], {"b": servers["a"]}, Guide(servers), Row("a"), Copy(), [Copy()], writer, ("deed", writer), Shell(Directory(schema))]


class Tests(unittest.TestCase):
    """Tests with helpers for refusals."""

    maxDiff = None

    def refuses(self, error, call, /, *args, **more):
        """Tests that a call raises just this error and changes nothing that it is passed; returns the error."""
        before = copy.deepcopy((args, more))
        try:
            told = call(*args, **more)
        except error as caught:
            self.assertIs(type(caught), error, (args, more))
            self.assertEqual(repr_of(before), repr_of((args, more)))
            return caught
        except Exception as caught:
            raise AssertionError(f"{type(caught)} instead of {error} for {args!r} {more!r}") from caught
        raise AssertionError(f"{told!r} instead of {error} for {args!r} {more!r}")

    def refuses_each(self, call, args, places, /, **more):
        """Tests that each wrong value in each place is refused, and that of two the first decides.

        `places` are triples (index or keyword, error, what tells whether a value is right there).
        """
        for at, (place, error, is_right) in enumerate(places):
            for value in wrong_values():
                if is_right(value):
                    continue
                caught = self.refuses(error, call, *with_place(args, place, value), **with_word(more, place, value))
                if error in KEPT:
                    self.assertIs(getattr(caught, KEPT[error]), value)
            for later, other, is_other in places[at + 1:]:
                pairs = [(one, two) for one in wrong_values()[::5] for two in wrong_values()[::7]]
                for one, two in pairs:
                    if is_right(one) or is_other(two):
                        continue
                    twice = with_place(with_place(args, place, one), later, two)
                    words = with_word(with_word(more, place, one), later, two)
                    caught = self.refuses(error, call, *twice, **words)
                    if error in KEPT:
                        self.assertIs(getattr(caught, KEPT[error]), one)

    def answers_all(self, call, args=()):
        """Tests that a call answers every value behind some arguments by True or False."""
        for value in wrong_values():
            before = copy.deepcopy(value)
            self.assertIn(call(*args, value), (True, False))
            self.assertIsInstance(call(*args, value), bool)
            self.assertEqual(repr_of(before), repr_of(value))

    def cannot_iterate(self, value):
        """Tests that a value can be neither iterated over nor asked by index."""
        with self.assertRaises(TypeError):
            iter(value)
        with self.assertRaises(TypeError):
            list(value)
        with self.assertRaises(TypeError):
            first, *rest = value

    def equals_itself_alone(self, value, alike, others):
        """Tests == and its opposite against an alike value, other ones, and wrong ones."""
        self.assertIs(value == alike, True)
        self.assertIs(value != alike, False)
        for other in [*others, 1, True, None, "a", (), [], {}, nested(8), InvalidWord("a")]:
            self.assertIs(value == other, False)
            self.assertIs(value != other, True)
            self.assertIs(other == value, False)
            self.assertIs(other != value, True)


def repr_of(value):
    """A text of a value in which objects of the package stand by what they tell."""
    if isinstance(value, (tuple, list)):
        return [type(value).__name__, *[repr_of(each) for each in value]]
    if isinstance(value, dict):
        return ["dict", *[[repr_of(key), repr_of(value[key])] for key in value]]
    if isinstance(value, Type):
        return ["Type", value.name, value.kind, value.above, value.is_single]
    if isinstance(value, Class):
        return ["Class", value.name, value.family, *shown_class(value)]
    if isinstance(value, Schema):
        return ["Schema", repr_of(value.types), repr_of(value.classes)]
    if type(value).__module__.startswith("bailiwick."):
        return [type(value).__name__, repr_of(vars(value))]
    return [type(value).__name__, repr(value)]


def shown_class(value):
    """What a class tells besides its name and family."""
    return [value.above, value.must, value.may, value.named, value.places, value.lets]


def with_place(args, place, value):
    """The arguments with a value in one of their places; as they are for a keyword."""
    if isinstance(place, str):
        return args
    return [*args[:place], value, *args[place + 1:]]


def with_word(more, place, value):
    """The keywords with a value for one; as they are for a place."""
    if isinstance(place, str):
        return {**more, place: value}
    return more


def never(value):
    """Tells that no value is right."""
    return False


def is_schema(value):
    """Whether a wrong value is a right schema all the same."""
    return isinstance(value, Schema)


def is_empty_dict(value):
    """Whether a wrong value is a right tree all the same."""
    return isinstance(value, dict) and value == {}


def sample_types():
    """The types of the sample schema."""
    return (
        Type("cn", "text"), Type("nick", "text", "cn"), Type("pet", "text", "nick"), Type("mail", "exact"),
        Type("age", "number", single=True), Type("mark", "number"), Type("ok", "flag"), Type("code", "exact", single=True),
        Type("boss", "link"), Type("pal", "link", "boss"),
    )


def sample_classes():
    """The classes of the sample schema."""
    return (
        Class("thing", "frame", may=("mark", "ok")),
        Class("unit", "shape", ("thing",), must=("cn",), named=("cn",), places=("", "unit")),
        Class("human", "shape", ("thing",), must=("cn",), may=("age", "boss", "mail", "nick", "pal"),
              named=("cn", "mail"), places=("human", "unit"), lets=("vip",)),
        Class("worker", "shape", ("human",), must=("age",), lets=("star",)),
        Class("vip", "extra", may=("pet",)),
        Class("top", "extra", ("vip",), must=("code",)),
        Class("star", "extra"),
        Class("moon", "extra"),
    )


def sample_schema():
    """A schema with types and classes of every kind and family."""
    return Schema(sample_types(), sample_classes())


def entry(above, word, text, classes, *values):
    """An entry, its values told as pairs of a type and a text that is its own form, or as triples."""
    triples = [each if len(each) == 3 else (each[0], each[1], each[1]) for each in values]
    return (above, (word, text), classes, tuple(sorted([(word, text, text), *triples])))


def sample_tree():
    """A right tree of the sample schema: units 1, 2 and 5, people 10, 20 and 30."""
    return {
        1: entry(0, "cn", "one", ("unit",)),
        2: entry(1, "cn", "two", ("unit",), ("mark", "5")),
        5: entry(0, "cn", "five", ("unit",)),
        10: (2, ("cn", "ann"), ("human",), (("cn", "ann", "Ann"), ("mail", "A@x", "A@x"))),
        20: (10, ("cn", "bob b"), ("human", "vip"),
             (("boss", "10", "10"), ("cn", "bob b", "Bob  B"), ("pal", "10", "10"), ("pet", "rex", "Rex"))),
        30: entry(2, "cn", "cy", ("worker",), ("age", "7"), ("pal", "20"), ("pal", "30")),
    }
