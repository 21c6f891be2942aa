"""Tests of bailiwick.rules.schemas."""

import random

from bailiwick.errors import InvalidOperation, InvalidSchema, InvalidWord
from bailiwick.rules import schemas
from bailiwick.rules.schemas import Class, Schema
from bailiwick.rules.types import Type, house_types
from tests.samples import Tests, never, sample_classes, sample_schema, sample_types, wrong_values
from tests.test_types import is_some_word

BARE = Class("bare", "shape", must=("label",), named=("label",), places=("",))


def are_some_words(value):
    """Whether a wrong value is a tuple of words all the same."""
    return isinstance(value, tuple) and all([is_some_word(each) or each == "b" for each in value])


def are_some_ascending(value):
    """Whether a wrong value is an ascending tuple of words all the same."""
    return are_some_words(value) and value not in (("b", "a"), ("a", "a"))


def fault_of(*classes):
    """The first fault of classes beside the types of the sample schema."""
    return Schema.fault_of(sample_types(), tuple(classes))


def frames(many, *above):
    """So many frames, each but the first beneath the one ahead of it, and the first one beneath others."""
    return [Class(f"f{at}", "frame", (f"f{at - 1}",) if at > 0 else above) for at in range(many)]


def shape(name, above=(), **more):
    """A shape without a fault beside what is told."""
    return Class(name, "shape", above, **{"must": ("cn",), "named": ("cn",), "places": ("",), **more})


class ClassTests(Tests):
    """The class Class."""

    def test_constants(self):
        self.assertEqual(schemas.FAMILIES, ("extra", "frame", "shape"))
        self.assertEqual((schemas.MAX_CLASSES, schemas.MAX_DEEP), (12, 5))

    def test_properties(self):
        plain = Class("a", "frame")
        self.assertEqual((plain.name, plain.family), ("a", "frame"))
        self.assertEqual((plain.above, plain.must, plain.may, plain.named, plain.places, plain.lets), ((),) * 6)
        full = Class("a" * 12, "shape", ("b", "c"), must=("d",), may=("e", "f"), named=("g",), places=("", "h"), lets=("i",))
        self.assertEqual((full.name, full.family, full.above), ("a" * 12, "shape", ("b", "c")))
        self.assertEqual((full.must, full.may, full.named), (("d",), ("e", "f"), ("g",)))
        self.assertEqual((full.places, full.lets), (("", "h"), ("i",)))

    def test_it_never_changes(self):
        for name in ("name", "family", "above", "must", "may", "named", "places", "lets"):
            with self.assertRaises(AttributeError):
                setattr(BARE, name, ())

    def test_equality(self):
        words = {"must": ("d",), "may": ("e",), "named": ("g",), "places": ("",), "lets": ("i",)}
        made = Class("a", "shape", ("b",), **words)
        others = [Class("a", "shape", ("b",), **{**words, name: ("z",)}) for name in words]
        others += [Class("a", "shape", ("c",), **words), Class("a", "extra", ("b",), **words), Class("b", "shape", ("b",), **words)]
        self.equals_itself_alone(made, Class("a", "shape", ("b",), **words), [*others, Type("a", "text")])
        self.cannot_iterate(made)

    def test_wrong_arguments(self):
        keywords = ("must", "may", "named", "lets")
        self.refuses_each(Class, ["a", "frame", ()], [
            (0, InvalidWord, is_some_word), (1, InvalidOperation, never), (2, InvalidOperation, are_some_ascending),
            *[(word, InvalidOperation, are_some_ascending) for word in keywords],
            ("places", InvalidOperation, lambda value: are_some_ascending(value) or value == ("",)),
        ], must=(), may=(), named=(), places=(), lets=())
        for word in (*keywords, "places"):
            for value in (("b", "a"), ("a", "a"), ["a"], "a", ("A",), ("a", ""), ("", ""), ("a" * 13,), (1,), None):
                self.refuses(InvalidOperation, Class, "a", "frame", **{word: value})
            if word != "places":
                self.refuses(InvalidOperation, Class, "a", "frame", **{word: ("",)})
        self.assertEqual(Class("a", "frame", places=("", "a", "b")).places, ("", "a", "b"))


class FaultTests(Tests):
    """The first fault of types and classes [5.3]."""

    def test_none(self):
        self.assertIsNone(Schema.fault_of((), ()))
        self.assertIsNone(Schema.fault_of(sample_types(), sample_classes()))
        self.assertIsNone(Schema.fault_of(sample_types()[::-1], sample_classes()[::-1]))
        self.assertIsNone(fault_of(BARE))

    def test_those_of_types_come_first(self):
        twice = (Type("a", "text"), Type("a", "text"))
        self.assertEqual(Schema.fault_of(twice, (BARE, BARE)), ("twice", "a"))
        many = tuple([Type(f"t{at}", "text") for at in range(21)])
        self.assertEqual(Schema.fault_of(many, (BARE, BARE)), ("many", ""))

    def test_class(self):
        self.assertEqual(fault_of(shape("b"), shape("b")), ("class", "b"))
        self.assertEqual(fault_of(shape("b"), Class("b", "extra")), ("class", "b"))
        for name in ("alias", "group", "share", "rule", "apart"):
            self.assertEqual(fault_of(shape("zz"), Class(name, "frame")), ("class", name))
        self.assertEqual(fault_of(shape("c"), shape("b"), shape("c"), shape("b")), ("class", "b"))

    def test_family(self):
        tops = [Class("e", "extra"), Class("f", "frame"), shape("s")]
        for upper, families in (("e", ("extra",)), ("f", ("extra", "frame", "shape")), ("s", ("shape",))):
            for family in schemas.FAMILIES:
                words = {"must": ("cn",), "named": ("cn",), "places": ("",)} if family == "shape" else {}
                told = fault_of(*tops, Class("b", family, (upper,), **words))
                self.assertEqual(told, None if family in families else ("family", "b"), (upper, family))
        self.assertEqual(fault_of(shape("b", ("x",))), ("family", "b"))
        # None stands beneath the classes of the house.
        self.assertEqual(fault_of(Class("b", "extra", ("apart",))), ("family", "b"))
        self.assertEqual(fault_of(shape("b", ("group",))), ("family", "b"))
        self.assertEqual(fault_of(*tops, shape("u"), shape("b", ("s", "u"))), ("family", "b"))
        self.assertIsNone(fault_of(*tops, Class("g", "frame"), shape("b", ("f", "g", "s"))))
        self.assertEqual(fault_of(shape("d", ("x",)), shape("c", ("x",))), ("family", "c"))

    def test_circle(self):
        self.assertEqual(fault_of(Class("b", "frame", ("b",))), ("circle", "b"))
        ring = [Class("c", "frame", ("d",)), Class("d", "frame", ("c",))]
        self.assertEqual(fault_of(*ring), ("circle", "c"))
        self.assertEqual(fault_of(*ring, Class("b", "extra", ("c",)), Class("a", "extra")), ("circle", "b"))
        self.assertEqual(fault_of(*ring, Class("b", "frame", ("c",)), shape("a", ("b",))), ("circle", "a"))
        # What stands above a ring is in none.
        self.assertEqual(fault_of(Class("a", "frame"), Class("c", "frame", ("a", "d")), Class("d", "frame", ("c",))),
                         ("circle", "c"))

    def test_deep(self):
        self.assertIsNone(fault_of(*frames(5)))
        self.assertEqual(fault_of(*frames(6)), ("deep", "f5"))
        self.assertEqual(fault_of(*frames(7)), ("deep", "f5"))
        # Some way upward is enough.
        self.assertEqual(fault_of(*frames(5), Class("a", "extra", ("f0", "f4"))), ("deep", "a"))
        self.assertIsNone(fault_of(*frames(5), Class("a", "extra", ("f0", "f3"))))
        self.assertEqual(fault_of(*frames(5), shape("b", ("f4",))), ("deep", "b"))

    def test_many_ways_upward(self):
        rows = [Class(f"f{at:03}", "frame", tuple([f"f{to:03}" for to in range(at)])) for at in range(40)]
        self.assertEqual(fault_of(*rows), ("deep", "f005"))

    def test_own(self):
        for family in ("extra", "frame"):
            for words in ({"named": ("cn",)}, {"places": ("",)}, {"lets": ("apart",)}):
                self.assertEqual(fault_of(Class("c", family, **words), Class("a", family)), ("own", "c"))
        self.assertEqual(fault_of(Class("c", "extra", lets=("c",)), Class("b", "frame", places=("b",))), ("own", "b"))

    def test_bears(self):
        for family in ("extra", "frame"):
            self.assertEqual(fault_of(Class("c", family, must=("x",))), ("bears", "c"))
            self.assertEqual(fault_of(Class("c", family, may=("cn", "x"))), ("bears", "c"))
        self.assertEqual(fault_of(shape("c", must=("cn", "x"))), ("bears", "c"))
        self.assertEqual(fault_of(shape("c", named=("cn", "x"))), ("bears", "c"))
        self.assertEqual(fault_of(shape("c", may=("x",)), Class("b", "extra", may=("y",))), ("bears", "b"))
        self.assertIsNone(fault_of(Class("c", "extra", must=("label", "to"), may=("who",))))

    def test_named(self):
        self.assertEqual(fault_of(shape("b", named=())), ("named", "b"))
        for word in ("ok", "boss", "to", "grants"):
            self.assertEqual(fault_of(shape("b", named=(word,), may=(word,))), ("named", "b"))
        for word in ("cn", "mail", "age", "mark", "label", "code", "of", "rank"):
            self.assertIsNone(fault_of(shape("b", named=(word,), may=(word,))))
        self.assertEqual(fault_of(shape("b", named=("cn", "mail"))), ("named", "b"))
        # It hangs on the type itself, not on its reach.
        self.assertEqual(fault_of(shape("b", named=("nick",))), ("named", "b"))
        self.assertEqual(fault_of(shape("b", must=("nick",))), ("named", "b"))

    def test_named_that_holds(self):
        above = shape("s", may=("mail",), named=("cn", "mail"))
        self.assertIsNone(fault_of(above, shape("b", ("s",), named=(), must=())))
        self.assertIsNone(fault_of(above, shape("b", ("s",), named=("mail",), must=())))
        self.assertEqual(fault_of(shape("s", named=()), shape("t", ("s",), named=())), ("named", "s"))
        frame = Class("f", "frame", may=("age",))
        self.assertIsNone(fault_of(frame, shape("b", ("f",), named=("age",))))
        self.assertEqual(fault_of(shape("t", named=()), shape("s", named=())), ("named", "s"))

    def test_what_holds_stands_above_a_shape_beside_frames(self):
        bare = {"named": (), "places": (), "must": ()}
        rows = (Class("a", "frame"), Class("z", "frame"), shape("r", may=("mail",), named=("cn", "mail"), places=("group",)),
                shape("s", ("a", "r", "z"), **bare, lets=("e",)), shape("t", ("a", "s", "z"), **bare), Class("e", "extra"))
        schema = Schema(sample_types(), rows)
        self.assertEqual((schema.naming_types("t"), schema.extras_of("t")), (("cn", "mail"), ("apart", "e")))
        self.assertEqual([schema.can_stand("t", other) for other in ("group", "", "r")], [True, False, False])
        self.assertIsNone(fault_of(*rows, shape("u", places=("r",))))
        beneath = Schema(sample_types(), (*rows, shape("u", places=("r",))))
        self.assertTrue(beneath.can_stand("u", "t"))

    def test_place(self):
        self.assertEqual(fault_of(shape("b", places=())), ("place", "b"))
        for place in ("x", "vip", "f", "apart"):
            told = fault_of(Class("f", "frame"), Class("vip", "extra"), shape("b", places=("", place)))
            self.assertEqual(told, ("place", "b"))
        for place in ("", "b", "c", "group", "alias", "share", "rule"):
            self.assertIsNone(fault_of(shape("c"), shape("b", places=(place,))))
        self.assertIsNone(fault_of(shape("s"), shape("b", ("s",), places=())))
        self.assertEqual(fault_of(shape("s", places=("x",)), shape("b", ("s",), places=())), ("place", "s"))
        self.assertEqual(fault_of(shape("s"), shape("b", ("s",), places=("x",))), ("place", "b"))
        self.assertEqual(fault_of(shape("s", places=()), shape("b", ("s",), places=())), ("place", "b"))

    def test_lets(self):
        for extra in ("x", "s", "f", "group"):
            self.assertEqual(fault_of(Class("f", "frame"), shape("s"), shape("b", lets=(extra,))), ("lets", "b"))
        self.assertIsNone(fault_of(Class("e", "extra"), shape("b", lets=("apart", "e"))))
        self.assertEqual(fault_of(shape("c", lets=("x",)), shape("b", lets=("x",))), ("lets", "b"))

    def test_classes(self):
        self.assertIsNone(fault_of(*[Class(f"e{at}", "extra") for at in range(12)]))
        self.assertEqual(fault_of(*[Class(f"e{at}", "extra") for at in range(13)]), ("classes", ""))

    def test_order_of_codes(self):
        rows = {
            "classes": [Class(f"m{at}", "extra") for at in range(13)],
            "lets": [shape("l", lets=("x",))],
            "place": [shape("p", places=())],
            "named": [shape("n", named=())],
            "bears": [Class("b", "extra", may=("x",))],
            "own": [Class("o", "frame", lets=("apart",))],
            "deep": frames(6),
            "circle": [Class("c", "frame", ("c",))],
            "family": [Class("y", "extra", ("x",))],
            "class": [Class("z", "extra"), Class("z", "extra")],
        }
        names = {"classes": "", "deep": "f5", "family": "y", "class": "z"}
        told = []
        for code in rows:
            told += rows[code]
            self.assertEqual(fault_of(*told), (code, names.get(code, code[0])))
            self.assertEqual(fault_of(*told[::-1]), (code, names.get(code, code[0])))

    def test_wrong_arguments(self):
        def are_some_types(value):
            return isinstance(value, tuple) and all([isinstance(each, Type) for each in value])

        def are_some_classes(value):
            return isinstance(value, tuple) and all([isinstance(each, Class) for each in value])

        for call in (Schema.fault_of, Schema):
            self.refuses_each(call, [(), ()], [(0, InvalidOperation, are_some_types), (1, InvalidOperation, are_some_classes)])
            self.refuses(InvalidOperation, call, [], ())
            self.refuses(InvalidOperation, call, (BARE,), ())
            self.refuses(InvalidOperation, call, (), (Type("a", "text"),))
            self.refuses(InvalidOperation, call, (), (BARE, "a"))
            # What is no tuple of classes is told even where the types have a fault.
            self.refuses(InvalidOperation, call, (Type("a", "text"), Type("a", "text")), None)
        self.refuses(InvalidSchema, Schema, (), (BARE, BARE))
        self.refuses(InvalidSchema, Schema, (Type("to", "text"),), ())


class SchemaTests(Tests):
    """The class Schema [0.11], [0.12], [5.1], [5.2]."""

    def setUp(self):
        self.schema = sample_schema()

    def test_types_and_classes(self):
        names = [each.name for each in sample_types()] + [each.name for each in house_types()]
        self.assertEqual([each.name for each in self.schema.types], sorted(names))
        for each in (*sample_types(), *house_types()):
            self.assertIn(each, self.schema.types)
        names = [each.name for each in sample_classes()] + ["alias", "apart", "group", "rule", "share"]
        self.assertEqual([each.name for each in self.schema.classes], sorted(names))
        for each in sample_classes():
            self.assertIn(each, self.schema.classes)
        self.assertIsInstance(self.schema.types, tuple)
        self.assertIsInstance(self.schema.classes, tuple)

    def test_it_never_changes(self):
        for name in ("types", "classes"):
            with self.assertRaises(AttributeError):
                setattr(self.schema, name, ())
        with self.assertRaises(AttributeError):
            self.schema.types[0].name = "x"

    def test_equality(self):
        alike = Schema(sample_types()[::-1], sample_classes()[::-1])
        others = [Schema((), ()), Schema(sample_types(), ()), Schema(sample_types(), sample_classes()[:-1]),
                  Schema(sample_types() + (Type("new", "text"),), sample_classes()),
                  Schema(sample_types() + (Type("new", "text", single=True),), sample_classes())]
        self.equals_itself_alone(self.schema, alike, others)
        self.cannot_iterate(self.schema)

    def test_house_classes(self):
        classes = {each.name: each for each in self.schema.classes}
        told = {name: (classes[name].family, classes[name].must) for name in ("alias", "apart", "group", "rule", "share")}
        self.assertEqual(told, {
            "alias": ("shape", ("label", "to")), "apart": ("extra", ()), "group": ("shape", ("label",)),
            "rule": ("shape", ("label", "may", "rank", "what")), "share": ("shape", ("label",)),
        })
        self.assertEqual(self.schema.may_bear(("alias",)), ())
        self.assertEqual(self.schema.may_bear(("apart",)), ("unshared",))
        self.assertEqual(self.schema.may_bear(("group",)), ("chosen", "ground", "member"))
        self.assertEqual(self.schema.may_bear(("rule",)),
                         ("below", "grants", "least", "most", "of", "who", "whom", "without"))
        self.assertEqual(self.schema.may_bear(("share",)), (
            "boss", "cn", "least", "mail", "mark", "most", "nick", "of", "ok", "pal", "pet", "without"))
        self.assertEqual(Schema((), ()).may_bear(("share",)), ("least", "most", "of", "without"))
        for name in ("alias", "group", "rule", "share"):
            self.assertEqual(self.schema.naming_types(name), ("label",))
            self.assertEqual(self.schema.extras_of(name), ("apart",))
            self.assertEqual((classes[name].named, classes[name].above), (("label",), ()))
            self.assertEqual(classes[name].places, ("", "alias", "group", "human", "rule", "share", "unit", "worker"))
            for other in ("", "unit", "human", "worker", "alias", "group", "rule", "share"):
                self.assertTrue(self.schema.can_stand(name, other))
            self.assertFalse(self.schema.can_stand("human", name))

    def test_kinds(self):
        told = [self.schema.kind_of(word) for word in ("cn", "mail", "age", "ok", "boss", "label", "to", "who", "x", "unit")]
        self.assertEqual(told, ["text", "exact", "number", "flag", "link", "text", "link", "exact", None, None])
        words = ("age", "code", "cn", "boss", "label", "to", "rank", "member", "who", "x")
        told = [self.schema.is_single_type(word) for word in words]
        self.assertEqual(told, [True, True, False, False, True, True, True, False, False, False])

    def test_reach(self):
        told = {word: self.schema.reach(word) for word in ("cn", "nick", "pet", "boss", "pal", "mail", "label", "x")}
        self.assertEqual(told, {
            "cn": ("cn", "nick", "pet"), "nick": ("nick", "pet"), "pet": ("pet",), "boss": ("boss", "pal"), "pal": ("pal",),
            "mail": ("mail",), "label": ("label",), "x": (),
        })

    def test_families(self):
        told = [self.schema.family_of(name) for name in ("thing", "unit", "vip", "group", "apart", "x", "cn")]
        self.assertEqual(told, ["frame", "shape", "extra", "shape", "extra", None, None])

    def test_is_beneath(self):
        yes = [("worker", "worker"), ("worker", "human"), ("worker", "thing"), ("human", "thing"), ("top", "vip"), ("apart", "apart")]
        for name, other in yes:
            self.assertIs(self.schema.is_beneath(name, other), True)
        for name, other in (("human", "worker"), ("vip", "top"), ("unit", "human"), ("x", "x"), ("x", "unit"), ("unit", "x")):
            self.assertIs(self.schema.is_beneath(name, other), False)

    def test_all_classes(self):
        self.assertEqual(self.schema.all_classes(("worker",)), ("human", "thing", "worker"))
        self.assertEqual(self.schema.all_classes(("x", "unit", "top", "unit")), ("thing", "top", "unit", "vip"))
        self.assertEqual(self.schema.all_classes(()), ())
        self.assertEqual(self.schema.all_classes(("x",)), ())

    def test_bearing(self):
        self.assertEqual(self.schema.must_bear(("worker",)), ("age", "cn"))
        self.assertEqual(self.schema.may_bear(("worker",)), ("age", "boss", "mail", "mark", "nick", "ok", "pal"))
        self.assertEqual(self.schema.must_bear(("top", "worker")), ("age", "cn", "code"))
        self.assertEqual(self.schema.may_bear(("top",)), ("pet",))
        self.assertEqual((self.schema.must_bear(()), self.schema.may_bear(("x",))), ((), ()))

    def test_lets_bear(self):
        for classes, word, told in [
            (("unit",), "cn", True), (("unit",), "nick", False), (("human",), "cn", True), (("human",), "nick", True),
            (("vip",), "cn", True), (("vip",), "nick", True), (("vip",), "pet", True), (("vip",), "mail", False),
            (("star",), "cn", False), (("worker",), "mark", True), (("unit",), "x", False), ((), "cn", False),
            (("x", "vip"), "pet", True),
        ]:
            self.assertIs(self.schema.lets_bear(classes, word), told, (classes, word))

    def test_shape_of(self):
        told = [self.schema.shape_of(names) for names in (("vip", "worker"), ("unit", "human"), ("thing", "vip"), (), ("x",), ("x", "group"))]
        self.assertEqual(told, ["worker", "human", None, None, None, "group"])

    def test_naming_types(self):
        told = [self.schema.naming_types(name) for name in ("unit", "human", "worker", "thing", "vip", "x", "")]
        self.assertEqual(told, [("cn",), ("cn", "mail"), ("cn", "mail"), (), (), (), ()])

    def test_extras_of(self):
        told = [self.schema.extras_of(name) for name in ("unit", "human", "worker", "thing", "vip", "x", "")]
        self.assertEqual(told, [("apart",), ("apart", "top", "vip"), ("apart", "star", "top", "vip"), (), (), (), ()])

    def test_can_stand(self):
        for name, other, told in [
            ("unit", "", True), ("unit", "unit", True), ("unit", "human", False), ("human", "", False), ("human", "unit", True),
            ("human", "human", True), ("human", "worker", True), ("worker", "worker", True), ("worker", "unit", True),
            ("worker", "", False), ("unit", "group", False), ("unit", "x", False), ("x", "unit", False), ("thing", "", False),
            ("unit", "thing", False), ("vip", "unit", False), ("", "unit", False), ("", "", False), ("group", "x", False),
            ("group", "thing", False), ("group", "vip", False),
        ]:
            self.assertIs(self.schema.can_stand(name, other), told, (name, other))

    def test_wrong_words(self):
        for call in (self.schema.kind_of, self.schema.is_single_type, self.schema.reach, self.schema.family_of):
            self.refuses_each(call, ["a"], [(0, InvalidWord, is_some_word)])
        self.refuses_each(self.schema.is_beneath, ["unit", "unit"], [(0, InvalidWord, is_some_word), (1, InvalidWord, is_some_word)])

    def test_wrong_classes(self):
        for call in (self.schema.all_classes, self.schema.must_bear, self.schema.may_bear, self.schema.shape_of):
            self.refuses_each(call, [()], [(0, InvalidOperation, are_some_words)])
            for value in ("unit", ["unit"], ("",), ("unit", "A"), ("unit", 1), None):
                self.refuses(InvalidOperation, call, value)
        self.refuses_each(self.schema.lets_bear, [(), "cn"], [(0, InvalidOperation, are_some_words), (1, InvalidWord, is_some_word)])

    def test_wrong_shapes(self):
        def is_some_shape(value):
            return value == "" or is_some_word(value)

        for call in (self.schema.naming_types, self.schema.extras_of):
            self.refuses_each(call, ["unit"], [(0, InvalidWord, is_some_shape)])
        self.refuses_each(self.schema.can_stand, ["unit", ""], [(0, InvalidWord, is_some_shape), (1, InvalidWord, is_some_shape)])
        self.assertEqual(self.refuses(InvalidWord, self.schema.can_stand, "A", "B").value, "A")

    def test_nothing_gives_access(self):
        types, classes = list(sample_types()), list(sample_classes())
        made = Schema(tuple(types), tuple(classes))
        types.clear()
        classes.clear()
        self.assertEqual(made, sample_schema())
        for value in wrong_values():
            if are_some_words(value):
                made.all_classes(value)
        self.assertEqual(made, sample_schema())


class ManySchemasTests(Tests):
    """Faults and schemas by chance: a schema is made if and only if there is no fault."""

    def test_by_chance(self):
        chance = random.Random(5)
        words = ("cn", "nick", "ok", "boss", "label", "x")
        names = ("a", "b", "c", "d", "group", "apart")
        made = 0
        for _ in range(3000):
            classes = tuple([self.some_class(chance, name, words, names) for name in chance.sample("abcd", chance.randrange(5))])
            fault = fault_of(*classes)
            if fault is None:
                schema = Schema(sample_types(), classes)
                made += 1
                for each in classes:
                    if each.family == "shape":
                        self.assertTrue(schema.naming_types(each.name))
                        self.assertTrue(any(schema.can_stand(each.name, other) for other in ("", *names)))
                        let = schema.must_bear((each.name,)) + schema.may_bear((each.name,))
                        self.assertTrue(set(schema.naming_types(each.name)) <= set(let))
            else:
                self.refuses(InvalidSchema, Schema, sample_types(), classes)
        self.assertGreater(made, 300)

    def some_class(self, chance, name, words, names):
        """A class by chance, often without a fault."""
        def some(row, most):
            return tuple(sorted(chance.sample(row, chance.randrange(most + 1))))

        family = chance.choice(schemas.FAMILIES)
        above = tuple([each for each in some("abcd", 1) if each < name or chance.random() < 0.2])
        if family != "shape":
            return Class(name, family, above, may=some(words[:-1], 2))
        return Class(name, family, above, must=("cn",), may=some(words[:-1], 2), named=("cn",), places=("",), lets=some(names, 1))
