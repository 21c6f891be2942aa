"""Tests of bailiwick.rules.judge."""

import random

from bailiwick.errors import InvalidOperation, InvalidSchema, InvalidTree, InvalidWord, UnknownNumber
from bailiwick.rules.judge import CODES, entry_faults, faults, first_fault, is_right
from bailiwick.rules.schemas import Class, Schema
from bailiwick.rules.types import Type
from tests.samples import (
    Tests, entry, is_empty_dict, is_schema, never, sample_schema, sample_tree,
)
from tests.test_trees import full_entry, wrong_entries
from tests.test_types import is_some_word

HUMAN = entry(1, "cn", "ann", ("human",))


def with_values(base, *values):
    """An entry with more values, told as triples or as pairs of a type and a text that is its own form."""
    triples = [each if len(each) == 3 else (each[0], each[1], each[1]) for each in values]
    return (*base[:3], tuple(sorted([*base[3], *triples])))


def with_classes(base, *classes):
    """An entry with other classes."""
    return (*base[:2], tuple(sorted(classes)), base[3])


class FaultTests(Tests):
    """The faults of an entry [6.1], [6.2]."""

    def setUp(self):
        self.schema = sample_schema()

    def has_faults(self, told, shape, asked):
        """Tests that an entry beneath an entry of a shape has just these faults."""
        self.assertEqual(entry_faults(self.schema, shape, asked), tuple(told))

    def test_codes(self):
        self.assertEqual(CODES, ("class", "frame", "shape", "double", "extra", "word", "kind", "single", "may", "must",
                                 "naming", "place"))

    def test_none(self):
        self.has_faults([], "unit", HUMAN)
        self.has_faults([], "human", with_classes(HUMAN, "human", "vip"))
        self.has_faults([], "", entry(0, "cn", "a", ("unit",)))
        self.has_faults([], "worker", entry(0, "mail", "A", ("apart", "human"), ("cn", "x"), ("unshared", "mail")))
        self.has_faults([], None, HUMAN)
        self.has_faults([], "rule", entry(0, "label", "a", ("group",), ("member", "77")))

    def test_class(self):
        self.has_faults([("class", "x")], "unit", with_classes(HUMAN, "human", "x"))
        self.has_faults([("class", "x"), ("class", "y")], "unit", with_classes(HUMAN, "human", "y", "x"))

    def test_frame(self):
        self.has_faults([("frame", "thing")], "unit", with_classes(HUMAN, "group", "moon", "thing"))

    def test_shape(self):
        self.has_faults([("shape", "")], "unit", with_classes(HUMAN, "vip"))
        self.has_faults([("shape", "unit")], "unit", with_classes(HUMAN, "human", "unit"))
        self.has_faults([("shape", "human"), ("shape", "unit")], "x", with_classes(HUMAN, "group", "human", "unit"))
        self.has_faults([("class", "x"), ("shape", "")], "unit", with_classes(HUMAN, "x"))
        self.has_faults([("frame", "thing"), ("shape", ""), ], "unit", with_classes(HUMAN, "thing"))

    def test_double(self):
        self.has_faults([("double", "vip"), ("extra", "star")], "unit",
                        with_values(with_classes(HUMAN, "human", "star", "top", "vip"), ("code", "1")))
        self.has_faults([("shape", "worker"), ("double", "human")], "unit",
                        with_values(with_classes(HUMAN, "human", "worker"), ("age", "1")))
        self.has_faults([("frame", "thing"), ("double", "thing")], "unit", with_classes(HUMAN, "human", "thing"))
        self.has_faults([], "unit", with_values(with_classes(HUMAN, "human", "top"), ("code", "1")))

    def test_extra(self):
        self.has_faults([("extra", "moon"), ("extra", "star")], "unit", with_classes(HUMAN, "human", "moon", "star"))
        self.has_faults([("extra", "vip")], "", with_classes(entry(0, "cn", "a", ("unit",)), "unit", "vip"))
        worker = with_values(HUMAN, ("age", "1"))
        self.has_faults([("extra", "moon")], "unit", with_classes(worker, "worker", "moon", "star", "vip", "apart"))

    def test_word(self):
        self.has_faults([("word", "x"), ("word", "y")], "unit", with_values(HUMAN, ("y", "1"), ("x", "1"), ("x", "2")))

    def test_kind(self):
        self.has_faults([("kind", "age")], "unit", with_values(HUMAN, ("age", "01")))
        self.has_faults([("kind", "mail")], "unit", with_values(HUMAN, ("mail", "a", "A")))
        self.has_faults([("kind", "nick"), ("kind", "pal")], "unit", with_values(HUMAN, ("nick", "A"), ("nick", "B"), ("pal", "0")))
        self.has_faults([("kind", "cn")], "unit", (1, ("cn", "Ann"), ("human",), (("cn", "Ann", "Ann"),)))

    def test_single(self):
        self.has_faults([("single", "age")], "unit", with_values(HUMAN, ("age", "1"), ("age", "2"), ("mark", "1"), ("mark", "2")))
        group = entry(0, "label", "a", ("group",), ("label", "b"), ("ground", "1"), ("ground", "2"))
        self.has_faults([("single", "ground"), ("single", "label")], "", group)

    def test_single_asks_the_type_itself(self):
        types = (Type("one", "text", single=True), Type("two", "text", "one"))
        schema = Schema(types, (Class("c", "shape", must=("one",), may=("two",), named=("one",), places=("",)),))
        asked = entry(0, "one", "a", ("c",), ("two", "b"), ("two", "c"))
        self.assertEqual(entry_faults(schema, "", asked), ())
        self.assertEqual(entry_faults(schema, "", with_values(asked, ("one", "b"))), (("single", "one"),))

    def test_may(self):
        self.has_faults([("may", "code"), ("may", "pet")], "unit", with_values(HUMAN, ("code", "1"), ("pet", "a")))
        # A type is let by itself, not by one above or beneath it.
        self.has_faults([("may", "pet")], "unit", with_values(HUMAN, ("pet", "a"), ("nick", "b")))
        self.has_faults([], "unit", with_values(with_classes(HUMAN, "human", "vip"), ("pet", "a")))
        self.has_faults([("may", "boss"), ("may", "to")], "", entry(0, "cn", "a", ("unit",), ("boss", "1"), ("to", "1")))
        self.has_faults([], "unit", with_values(HUMAN, ("mark", "1"), ("ok", "yes")))

    def test_must(self):
        self.has_faults([("must", "age")], "unit", with_classes(HUMAN, "worker"))
        # A value of the reach is enough.
        self.has_faults([("naming", "nick")], "unit", entry(1, "nick", "a", ("human",)))
        self.has_faults([("must", "cn")], "unit", entry(1, "mail", "a", ("human",)))
        self.has_faults([("must", "age"), ("must", "code")], "unit", with_classes(HUMAN, "top", "worker"))
        self.has_faults([("must", "may"), ("must", "rank"), ("must", "what")], "", entry(0, "label", "a", ("rule",)))
        self.has_faults([("must", "to")], "", entry(0, "label", "a", ("alias",)))

    def test_naming(self):
        self.has_faults([("naming", "age")], "unit", entry(1, "age", "1", ("human",), ("cn", "a")))
        self.has_faults([("naming", "cn")], "", entry(0, "cn", "a", ("share",), ("label", "b")))
        self.has_faults([], "unit", entry(1, "mail", "1", ("human",), ("cn", "a")))

    def test_place(self):
        self.has_faults([("place", "human")], "", HUMAN)
        self.has_faults([("place", "human")], "group", HUMAN)
        self.has_faults([("place", "human")], "x", HUMAN)
        self.has_faults([("place", "human")], "thing", HUMAN)
        self.has_faults([("place", "unit")], "human", entry(1, "cn", "a", ("unit",)))
        self.has_faults([], None, entry(1, "cn", "a", ("unit",)))
        self.has_faults([], "human", with_values(with_classes(HUMAN, "worker"), ("age", "1")))

    def test_what_is_left_out(self):
        base = (1, ("age", "1"), ("human",), (
            ("age", "1", "1"), ("age", "2", "2"), ("code", "q", "q"), ("mark", "01", "01"), ("x", "1", "1")))
        own = [("word", "x"), ("kind", "mark"), ("single", "age")]
        more = [("may", "code"), ("must", "cn"), ("naming", "age"), ("place", "human")]
        self.has_faults([("extra", "moon"), *own, *more], "", with_classes(base, "human", "moon"))
        self.has_faults([("extra", "moon"), *own, *more[:3]], None, with_classes(base, "human", "moon"))
        self.has_faults([("class", "y"), *own], "", with_classes(base, "human", "moon", "y"))
        self.has_faults([("frame", "thing"), ("double", "thing"), *own], "", with_classes(base, "human", "moon", "thing"))
        self.has_faults([("shape", "unit"), *own], "", with_classes(base, "human", "moon", "unit"))
        self.has_faults([("shape", ""), *own], "", with_classes(base, "moon"))
        # A doubled class leaves nothing out.
        self.has_faults([("double", "vip"), ("extra", "moon"), *own, *more[1:]], "",
                        with_classes(base, "human", "moon", "top", "vip"))

    def test_wrong_arguments(self):
        def is_shape(value):
            return value is None or value == "" or is_some_word(value)

        self.refuses_each(entry_faults, [self.schema, "unit", HUMAN], [
            (0, InvalidSchema, is_schema), (1, InvalidWord, is_shape), (2, InvalidTree, never)])
        for each in wrong_entries():
            self.refuses(InvalidTree, entry_faults, self.schema, "unit", each)
        self.refuses(InvalidTree, entry_faults, self.schema, "unit", full_entry(61))
        self.assertEqual(entry_faults(self.schema, "", full_entry(60)), (("may", "mail"),))


class TreeTests(Tests):
    """The faults of entries in trees [6.3]."""

    def setUp(self):
        self.schema = sample_schema()
        self.wrong = {
            1: entry(0, "cn", "one", ("unit",)),
            3: entry(1, "cn", "two", ("vip",)),
            7: entry(3, "cn", "a", ("unit",)),
            8: entry(0, "cn", "a", ("human",), ("code", "1")),
            9: entry(8, "cn", "b", ("unit",)),
        }

    def test_faults(self):
        told = {number: faults(self.schema, self.wrong, number) for number in self.wrong}
        self.assertEqual(told, {
            1: (), 3: (("shape", ""),), 7: (), 8: (("may", "code"), ("place", "human")), 9: (("place", "unit"),)})
        for number in sample_tree():
            self.assertEqual(faults(self.schema, sample_tree(), number), ())

    def test_they_hang_on_the_entry_and_the_shape_above(self):
        tree = sample_tree()
        told = faults(self.schema, {**tree, 10: entry(2, "cn", "q", ("alias",))}, 20)
        self.assertEqual(told, entry_faults(self.schema, "alias", tree[20]))
        self.assertEqual(told, (("place", "human"),))
        for number in tree:
            above = tree[number][0]
            shape = "" if above == 0 else self.schema.shape_of(tree[above][2])
            self.assertEqual(faults(self.schema, tree, number), entry_faults(self.schema, shape, tree[number]))

    def test_first_fault(self):
        self.assertIsNone(first_fault(self.schema, {}))
        self.assertIsNone(first_fault(self.schema, sample_tree()))
        self.assertEqual(first_fault(self.schema, self.wrong), (3, "shape", ""))
        backward = {number: self.wrong[number] for number in sorted(self.wrong, reverse=True)}
        self.assertEqual(first_fault(self.schema, backward), (3, "shape", ""))
        for numbers, told in [
            ((), None), ((1, 7), None), ((9, 8), (8, "may", "code")), ((9,), (9, "place", "unit")),
            ((8, 8), (8, "may", "code")), ((9, 7, 3), (3, "shape", "")),
        ]:
            self.assertEqual(first_fault(self.schema, self.wrong, numbers), told)
        self.assertEqual(first_fault(self.schema, self.wrong, None), (3, "shape", ""))

    def test_is_right(self):
        self.assertIs(is_right(self.schema, {}), True)
        self.assertIs(is_right(self.schema, sample_tree()), True)
        self.assertIs(is_right(self.schema, self.wrong), False)
        self.assertIs(is_right(self.schema, {**sample_tree(), 8: self.wrong[8]}), False)
        self.assertIs(is_right(self.schema, {1: entry(0, "cn", "a", ("unit",), ("boss", "2"))}), False)
        self.assertIs(is_right(self.schema, {1: entry(5, "cn", "a", ("unit",))}), False)

    def test_wrong_arguments(self):
        tree = sample_tree()

        def is_number(value):
            return value == 1 and not isinstance(value, bool)

        self.refuses_each(faults, [self.schema, tree, 1], [
            (0, InvalidSchema, is_schema), (1, InvalidTree, is_empty_dict), (2, UnknownNumber, is_number)])
        self.refuses_each(first_fault, [self.schema, tree, ()], [
            (0, InvalidSchema, is_schema), (1, InvalidTree, is_empty_dict),
            (2, InvalidOperation, lambda value: value is None or value == () or value == (1, 2))])
        for numbers in ([1], (0,), (True,), (1, None), (10 ** 12 + 1,), ("1",), 1, {1: 2}, (-1,)):
            self.refuses(InvalidOperation, first_fault, self.schema, tree, numbers)
        self.assertEqual(self.refuses(UnknownNumber, first_fault, self.schema, tree, (1, 77, 3, 88)).asked, 77)
        self.refuses(InvalidOperation, first_fault, self.schema, tree, (77, 0))
        self.answers_all(is_right, (self.schema,))
        self.refuses_each(is_right, [self.schema, {}], [(0, InvalidSchema, is_schema)])
        loose = {1: entry(0, "cn", "a", ("human",), ("boss", "2"))}
        for wrong in (loose, {1: with_values(HUMAN, ("x", "1"))}, {1: (0, *with_values(HUMAN, ("age", "01"))[1:])}):
            self.refuses(InvalidTree, faults, self.schema, wrong, 1)
            self.refuses(InvalidTree, first_fault, self.schema, wrong)


class ManyEntriesTests(Tests):
    """Faults by chance, against the words of [6.1] written down anew."""

    def test_by_chance(self):
        chance = random.Random(8)
        schema = sample_schema()
        names = ("unit", "human", "worker", "vip", "top", "star", "moon", "apart", "thing", "group", "x")
        words = ("cn", "nick", "pet", "mail", "age", "mark", "code", "label", "x")
        seen = set()
        for _ in range(4000):
            classes = tuple(sorted(chance.sample(names, chance.choice((1, 1, 2, 2, 3)))))
            values = {(chance.choice(words), chance.choice(("1", "a", "01"))) for _ in range(chance.randrange(5))}
            asked = (0, (chance.choice(words), "a"), classes, tuple(sorted([(word, form, form) for word, form in values])))
            shape = chance.choice((None, "", "unit", "human", "worker", "group"))
            told = entry_faults(schema, shape, asked)
            self.assertEqual(list(told), self.by_the_table(schema, shape, asked))
            seen |= {code for code, what in told}
        self.assertEqual(seen, set(CODES))

    def by_the_table(self, schema, shape, asked):
        """The faults of an entry, code by code."""
        above, (named, form), classes, values = asked
        shapes = [name for name in classes if schema.family_of(name) == "shape"]
        told = [("class", name) for name in classes if schema.family_of(name) is None]
        told += [("frame", name) for name in classes if schema.family_of(name) == "frame"]
        told += [("shape", name) for name in (shapes[1:] if shapes else [""])]
        firm = told == []
        told += [("double", name) for name in classes if any(x != name and schema.is_beneath(x, name) for x in classes)]
        borne = {word for word, form, text in values}
        let = schema.must_bear(classes) + schema.may_bear(classes)
        if firm:
            told += [("extra", name) for name in classes if schema.family_of(name) == "extra"
                     and name not in schema.extras_of(shapes[0])]
        told += [("word", word) for word in sorted(borne) if schema.kind_of(word) is None]
        told += [("kind", word) for word in sorted(borne) if schema.kind_of(word) == "number"
                 and any(form in ("01", "a") for name, form, text in values if name == word)]
        told += [("single", word) for word in sorted(borne) if word in ("age", "code", "label")
                 and len([1 for name, form, text in values if name == word]) > 1]
        if firm:
            told += [("may", word) for word in sorted(borne) if schema.kind_of(word) is not None and word not in let]
            told += [("must", word) for word in schema.must_bear(classes) if not borne & set(schema.reach(word))]
            told += [("naming", named)] if named not in schema.naming_types(shapes[0]) else []
            told += [("place", shapes[0])] if shape is not None and not schema.can_stand(shapes[0], shape) else []
        return told
