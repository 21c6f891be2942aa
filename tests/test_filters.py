"""Tests of bailiwick.ask.filters."""

import random
import re

from bailiwick.ask import filters
from bailiwick.ask.filters import filter_text, is_filter, items_of, numbers_true, read_filter, value_at
from bailiwick.errors import InvalidFilter, InvalidSchema, InvalidText, InvalidTree, ParseError, UnknownNumber
from bailiwick.rules.schemas import Schema
from tests.makers import asking_schema, plain_value, some_filters, some_tree
from tests.samples import Tests, entry, is_empty_dict, is_schema, never, nested, sample_schema, sample_tree, wrong_values
from tests.test_links import is_one

HAS = ("has", "cn")
EVERYTHING, NOTHING = ("and", ()), ("or", ())
# Each kind of item with its text.
ITEMS = {
    ("has", "cn"): "(cn=*)",
    ("is", "cn", "Ann B"): "(cn=Ann B)",
    ("from", "age", "-3"): "(age>=-3)",
    ("to", "age", " "): "(age<= )",
    ("pieces", "cn", "a", (), ""): "(cn=a*)",
    ("pieces", "cn", "", (), "b"): "(cn=*b)",
    ("pieces", "cn", "a", (), "b"): "(cn=a*b)",
    ("pieces", "cn", "", ("m",), ""): "(cn=*m*)",
    ("pieces", "cn", "a b", (" m ", "n"), "z"): "(cn=a b* m *n*z)",
    ("class", "vip"): "(:vip)",
    ("within", 10): "(#10)",
}


def wrapped(asked, many):
    """A filter with so many and and or around it, by turns."""
    for at in range(many):
        asked = (("and", "or")[at % 2], (asked,))
    return asked


def negated(asked, many):
    """A filter with so many not around it."""
    for _ in range(many):
        asked = ("not", asked)
    return asked


def wrong_filters():
    """Values that are no filters, some of them by one place alone."""
    texts = ("", "a" * 101, "a\n", None, 1, True, ("a",), ["a"])
    words = ("", "A", "1a", "a" * 13, "a b", None, 1, True, ("a",), ["a"], {})
    found = [value for value in wrong_values()]
    found += [(first, word) for first in ("has", "class") for word in words]
    found += [(first, word, "a") for first in ("is", "from", "to") for word in words]
    found += [(first, "cn", text) for first in ("is", "from", "to") for text in texts]
    found += [("within", number) for number in (0, -1, 10 ** 12 + 1, 10 ** 39, True, False, None, "1", (1,))]
    found += [("pieces", word, "a", (), "") for word in words]
    found += [("pieces", "cn", *each) for each in (
        ("", (), ""), ("a" * 101, (), ""), ("a", ("",), ""), ("a", ["b"], ""), ("a", None, ""), ("a", ("b",) * 9, ""),
        ("a", (1,), ""), (None, ("b",), ""), ("a", (), None), (True, (), "a"), ("a", "b", ""), ("a\n", (), ""))]
    found += [(first,) for first in ("pieces", "is", "from", "to", "class", "not", "and", "or")] + [("pieces", "cn")]
    found += [("has",), ("has", "cn", "a"), ("is", "cn"), ("is", "cn", "a", "b"), ("pieces", "cn", ("a", (), "")),
              ("pieces", "cn", "a", ()), ("pieces", "cn", "a", (), "", ""), ("within",), ("within", 1, 2), ("class",)]
    found += [["has", "cn"], ("Has", "cn"), ("nor", ()), ("has ", "cn"), (("has", "cn"),), "(cn=*)"]
    for first in ("and", "or"):
        found += [(first,), (first, HAS), (first, [HAS]), (first, (HAS,), ()), (first, (1,)), (first, (HAS, ())),
                  (first, None), (first, (("and",),)), (first, {HAS: True}), (first, "cn"), (first, (HAS,) * 32)]
    found += [("not",), ("not", HAS, HAS), ("not", (HAS,)), ("not", ()), ("not", ["has", "cn"]), ("not", None)]
    found += [wrapped(HAS, 6), negated(HAS, 6), wrapped(EVERYTHING, 6), ("and", (HAS, wrapped(HAS, 5)))]
    return found


# A text of an item, an item, and a filter whose filters stand as signs of their own, without any bound.
TEXT = r"(?:[^()*\\\0]|\\[()*\\])+"
WORD = "[a-z][a-z0-9]*"
ITEM_TEXT = re.compile(
    rf"(?<!\\)\((?:{WORD}(?:=\*|[<>]?={TEXT}|=(?:{TEXT})?(?:\*{TEXT})*\*(?:{TEXT})?)|:{WORD}|#[1-9][0-9]*)\)")
FILTER_TEXT = re.compile(r"\((?:[&|]\0*|!\0)\)")
ENDS = [end + ")" * many for many in range(8)
        for end in ("", ")", "a)", "=a)", "=*)", "a=a)", "1)", "(a=a)", "&)", "*)", "(a)", "\\)")]


def is_whole_text(signs):
    """Whether some signs are the text of a filter, bounds left aside."""
    left = ITEM_TEXT.sub("\0", signs)
    while FILTER_TEXT.search(left):
        left = FILTER_TEXT.sub("\0", left)
    return left == "\0"


def can_be_begun(signs):
    """Whether the text of some filter begins with some signs."""
    return any(is_whole_text(signs + end) for end in ENDS)


class IsFilterTests(Tests):
    """What filters are [11.1]."""

    def test_constants(self):
        self.assertEqual((filters.MAX_DEEP, filters.MAX_PARTS), (6, 32))
        self.assertEqual(filters.VALUES, ("false", "true", "unknown"))

    def test_items(self):
        for item in ITEMS:
            self.assertIs(is_filter(item), True, item)
        longest = ("pieces", "a" * 12, "x" * 100, ("~" * 100,) * 8, " " * 100)
        for item in (longest, ("is", "a1", "x" * 100), ("within", 1), ("within", 10 ** 12), ("has", "and"), ("class", "not")):
            self.assertIs(is_filter(item), True, item)

    def test_filters_within_filters(self):
        for asked in (EVERYTHING, NOTHING, ("and", (HAS,)), ("or", (HAS, HAS)), ("not", HAS), ("not", EVERYTHING),
                      ("and", (NOTHING, ("not", ("or", (HAS, EVERYTHING)))))):
            self.assertIs(is_filter(asked), True, asked)

    def test_six_and_seven_deep(self):
        for inner in (HAS, EVERYTHING, NOTHING):
            for wrap in (wrapped, negated):
                self.assertIs(is_filter(wrap(inner, 5)), True)
                self.assertIs(is_filter(wrap(inner, 6)), False)
        self.assertIs(is_filter(("and", (HAS, wrapped(HAS, 4), HAS))), True)
        self.assertIs(is_filter(("and", (HAS, wrapped(HAS, 5), HAS))), False)
        self.assertIs(is_filter(negated(HAS, 900)), False)

    def test_parts(self):
        for first in ("and", "or"):
            self.assertIs(is_filter((first, (HAS,) * 31)), True)
            self.assertIs(is_filter((first, (HAS,) * 32)), False)
            self.assertIs(is_filter((first, (EVERYTHING,) * 31)), True)
            self.assertIs(is_filter((first, (EVERYTHING,) * 32)), False)
            self.assertIs(is_filter(("not", (first, (HAS,) * 30))), True)
            self.assertIs(is_filter(("not", (first, (HAS,) * 31))), False)
            self.assertIs(is_filter((first, (("not", HAS),) * 15)), True)
            self.assertIs(is_filter((first, (("not", HAS),) * 15 + (HAS,))), True)
            self.assertIs(is_filter((first, (("not", HAS),) * 16)), False)
            self.assertIs(is_filter((first, (("and", (HAS,) * 14), ("or", (HAS,) * 15)))), True)
            self.assertIs(is_filter((first, (("and", (HAS,) * 15), ("or", (HAS,) * 15)))), False)

    def test_values_that_are_none(self):
        for value in wrong_filters():
            self.assertIs(is_filter(value), False, value)
        self.answers_all(is_filter)
        wide = HAS
        for _ in range(5):
            wide = ("and", (wide,) * 31)
        self.assertIs(is_filter(wide), False)
        self.assertIs(is_filter(("or", (HAS, wide))), False)

    def test_items_of(self):
        self.assertEqual(items_of(EVERYTHING), ())
        for item in ITEMS:
            self.assertEqual(items_of(item), (item,))
            self.assertEqual(items_of(negated(item, 5)), (item,))
        asked = ("or", (*reversed(ITEMS), ("and", (HAS, ("not", ("has", "age")))), ("not", ("not", ("within", 9)))))
        self.assertEqual(items_of(asked), tuple(sorted([*ITEMS, ("has", "age"), ("within", 9)])))
        self.assertEqual(items_of(("and", (("within", 10), ("within", 9), ("has", "b"), ("class", "z"), ("has", "a")))),
                         (("class", "z"), ("has", "a"), ("has", "b"), ("within", 9), ("within", 10)))


class ValueTests(Tests):
    """The values of filters at entries [11.2, 11.3, 11.4, 0.15]."""

    def setUp(self):
        self.schema = sample_schema()
        self.tree = sample_tree()

    def has(self, value, number, *items, tree=None, schema=None):
        """Tests that each of some filters has this value at an entry."""
        for item in items:
            told = value_at(schema or self.schema, self.tree if tree is None else tree, item, number)
            self.assertEqual(told, value, (number, item))

    def test_items_with_types(self):
        self.has("true", 20, ("has", "cn"), ("is", "cn", " BOB   b "), ("is", "pet", "rex"), ("has", "pet"))
        self.has("false", 20, ("has", "mail"), ("has", "mark"), ("is", "cn", "bob"), ("is", "pet", "re"), ("is", "mark", "5"))
        self.has("true", 10, ("is", "mail", "A@x"), ("pieces", "mail", "A", (), "x"), ("from", "mail", "A"), ("to", "mail", "a"))
        self.has("false", 10, ("is", "mail", "a@x"), ("pieces", "mail", "a", (), ""), ("from", "mail", "a"), ("to", "mail", "A"))
        self.has("true", 2, ("is", "mark", "5"), ("from", "mark", "5"), ("to", "mark", "5"), ("from", "mark", "-10"))
        self.has("false", 2, ("is", "mark", "6"), ("from", "mark", "6"), ("to", "mark", "4"), ("has", "ok"))
        # Numbers stand by their integers, texts by their signs.
        self.has("true", 2, ("to", "mark", "10"))
        self.has("false", 2, ("from", "mark", "10"))
        self.has("true", 2, ("from", "cn", "TWN"), ("to", "cn", " TWO  "), ("from", "cn", "1000"))

    def test_reach(self):
        # A value of a type in the reach counts, one of a type above does not.
        self.has("true", 20, ("has", "nick"), ("is", "nick", "REX"), ("is", "cn", "rex"), ("pieces", "cn", "", ("e",), "X"))
        self.has("false", 20, ("is", "pet", "bob b"), ("is", "nick", "bob b"))
        self.has("true", 20, ("has", "boss"), ("is", "pal", "10"))
        self.has("true", 30, ("is", "boss", "20"), ("has", "pal"))
        # Several values: one that matches is enough.
        self.has("true", 30, ("is", "pal", "20"), ("is", "pal", "30"))
        self.has("false", 30, ("is", "pal", "10"))

    def test_patterns(self):
        self.has("true", 20, *[("pieces", "cn", *each) for each in (
            ("b", (), ""), ("", (), "B"), ("bob", (), " b"), ("BOB  ", (), ""), ("", ("ob",), ""), ("b", ("o", " "), "b"),
            ("bob b"[:3], (), "b"), ("", ("b", "b", "b"), ""))])
        self.has("false", 20, *[("pieces", "cn", *each) for each in (
            ("ob", (), ""), ("", (), "o"), ("bob b", (), "b"), ("bob", ("b b",), ""), ("b", ("o", "o"), "b"))])

    def test_unknown_items(self):
        # A type that the schema lacks.
        self.has("unknown", 20, ("has", "none"), ("is", "none", "a"), ("from", "none", "a"), ("to", "none", "1"),
                 ("pieces", "none", "a", (), ""))
        # A text that does not fit the kind.
        self.has("unknown", 20, ("is", "cn", "  "), ("is", "mark", "05"), ("from", "mark", "a"), ("to", "mark", "-0"),
                 ("is", "ok", "Yes"), ("is", "boss", "0"), ("is", "boss", "x"), ("from", "cn", " "), ("to", "cn", " "))
        # A kind without pieces, or a pattern that does not fit.
        self.has("unknown", 20, ("pieces", "mark", "1", (), ""), ("pieces", "ok", "y", (), ""), ("pieces", "boss", "1", (), ""),
                 ("pieces", "cn", " ", (), "a"), ("pieces", "cn", "a", (), "  "))
        self.has("true", 20, ("pieces", "cn", "b", (" ",), "b"))
        # A kind without an order.
        self.has("unknown", 20, ("from", "ok", "yes"), ("to", "ok", "no"), ("from", "boss", "10"), ("to", "pal", "10"))
        # Classes that let neither the type nor one beneath it be borne.
        self.has("unknown", 20, ("has", "code"), ("is", "code", "7"), ("has", "label"), ("from", "code", "1"))
        self.has("unknown", 1, ("has", "age"), ("is", "age", "7"), ("to", "age", "7"))
        self.has("unknown", 10, ("has", "pet"), ("is", "pet", "a"))
        self.has("unknown", 1, ("has", "mail"), ("has", "nick"), ("has", "boss"), ("pieces", "mail", "a", (), ""))
        # A type beneath that they let be borne is enough; a type above that they let be borne is not.
        lower = {1: entry(0, "pet", "a", ("vip",)), 2: entry(0, "cn", "b", ("unit",))}
        self.has("true", 1, ("has", "cn"), ("has", "nick"), ("is", "nick", "A"), tree=lower)
        self.has("false", 1, ("is", "cn", "b"), tree=lower)
        self.has("unknown", 2, ("has", "nick"), ("has", "pet"), tree=lower)

    def test_values_that_are_not_let(self):
        # The tree need not be right: a value that the classes do not let be borne is unknown all the same.
        tree = {1: entry(0, "cn", "a", ("unit",), ("mail", "x"), ("age", "5")), 2: entry(0, "cn", "b", ("nowhere",))}
        self.has("unknown", 1, ("has", "mail"), ("is", "mail", "x"), ("is", "mail", "y"), ("from", "age", "1"), tree=tree)
        self.has("unknown", 2, ("has", "cn"), ("is", "cn", "b"), tree=tree)
        self.has("true", 2, ("within", 2), EVERYTHING, tree=tree)
        self.has("false", 2, ("class", "unit"), tree=tree)
        self.has("unknown", 2, ("class", "nowhere"), tree=tree)
        # A type beneath that is let makes a value known of a type that is not let itself.
        tree = {1: entry(0, "cn", "a", ("human",), ("pet", "x"))}
        self.has("true", 1, ("is", "nick", "x"), ("is", "cn", "x"), tree=tree)
        self.has("unknown", 1, ("is", "pet", "x"), tree=tree)

    def test_classes(self):
        self.has("true", 30, ("class", "worker"), ("class", "human"), ("class", "thing"))
        self.has("true", 20, ("class", "vip"), ("class", "human"), ("class", "thing"))
        self.has("false", 20, ("class", "worker"), ("class", "top"), ("class", "unit"), ("class", "group"), ("class", "apart"))
        self.has("unknown", 20, ("class", "none"), ("class", "cn"), ("class", "mail"))

    def test_within(self):
        for number, tops in {1: (1,), 2: (1, 2), 5: (5,), 10: (1, 2, 10), 20: (1, 2, 10, 20), 30: (1, 2, 30)}.items():
            for top in (1, 2, 5, 10, 20, 30, 77, 10 ** 12):
                self.has("true" if top in tops else "false", number, ("within", top))

    def test_and_or_not(self):
        # At entry 20: an item that is true, one that is false and one that is unknown.
        items = {"true": ("has", "cn"), "false": ("has", "mail"), "unknown": ("has", "code")}
        self.has("true", 20, EVERYTHING)
        self.has("false", 20, NOTHING)
        turned = {"true": "false", "false": "true", "unknown": "unknown"}
        for one, item in items.items():
            self.has(one, 20, item, ("and", (item,)), ("or", (item,)), ("not", ("not", item)))
            self.has(turned[one], 20, ("not", item))
            for two, other in items.items():
                both = "false" if "false" in (one, two) else "unknown" if "unknown" in (one, two) else "true"
                some = "true" if "true" in (one, two) else "unknown" if "unknown" in (one, two) else "false"
                self.has(both, 20, ("and", (item, other)), ("and", (item, other, item)), ("and", (item, EVERYTHING, other)))
                self.has(some, 20, ("or", (item, other)), ("or", (other, item, item)), ("or", (NOTHING, other, item)))

    def test_what_is_not_true(self):
        # [0.23]: neither a filter nor its opposite is true everywhere, and not (x >= 3) is not x <= 2.
        self.has("unknown", 1, ("or", (("has", "mail"), ("not", ("has", "mail")))))
        self.has("unknown", 1, ("and", (("has", "mail"), ("not", ("has", "mail")))))
        tree = {1: entry(0, "cn", "a", ("unit",)), 2: entry(0, "cn", "b", ("unit",), ("mark", "1"), ("mark", "9"))}
        self.has("true", 1, ("not", ("from", "mark", "3")), tree=tree)
        self.has("false", 1, ("to", "mark", "2"), tree=tree)
        self.has("true", 2, ("from", "mark", "3"), ("to", "mark", "2"), tree=tree)

    def test_what_a_view_lacks(self):
        # [0.15]: what is not in the tree that is passed is absent, and never unknown for that.
        tree = sample_tree()
        above, naming, classes, values = tree[20]
        tree[20] = (above, naming, classes, tuple([value for value in values if value[0] != "pet"]))
        self.has("false", 20, ("has", "pet"), ("is", "pet", "rex"), tree=tree)
        del tree[30]
        self.has("false", 20, ("within", 30), tree=tree)

    def test_numbers_true(self):
        told = {
            EVERYTHING: (1, 2, 5, 10, 20, 30), NOTHING: (), ("within", 2): (2, 10, 20, 30), ("class", "human"): (10, 20, 30),
            ("has", "mail"): (10,), ("not", ("has", "mail")): (20, 30), ("has", "none"): (), ("not", ("has", "none")): (),
            ("pieces", "cn", "", (), "e"): (1, 5), ("or", (("is", "cn", "ONE"), ("from", "age", "7"))): (1, 30),
        }
        for asked, numbers in told.items():
            self.assertEqual(numbers_true(self.schema, self.tree, asked), numbers, asked)
        backward = {number: self.tree[number] for number in sorted(self.tree, reverse=True)}
        self.assertEqual(numbers_true(self.schema, backward, EVERYTHING), (1, 2, 5, 10, 20, 30))
        self.assertEqual(numbers_true(self.schema, {}, EVERYTHING), ())

    def test_many_trees(self):
        schema = asking_schema()
        for seed in range(12):
            tree = some_tree(seed, schema, 1 + seed * 3)
            for asked in some_filters(f"values {seed}", 15):
                told = {number: value_at(schema, tree, asked, number) for number in tree}
                self.assertEqual(told, {number: plain_value(schema, tree, asked, number) for number in tree}, asked)
                self.assertEqual(numbers_true(schema, tree, asked), tuple(sorted([
                    number for number in tree if told[number] == "true"])))

    def test_wrong_arguments(self):
        right = [
            (0, InvalidSchema, is_schema), (1, InvalidTree, is_empty_dict), (2, InvalidFilter, never), (3, UnknownNumber, is_one)]
        self.refuses_each(value_at, [self.schema, self.tree, HAS, 1], right)
        self.refuses_each(numbers_true, [self.schema, self.tree, HAS], right[:3])
        for asked in wrong_filters():
            self.refuses(InvalidFilter, value_at, self.schema, self.tree, asked, 77)
            self.refuses(InvalidFilter, numbers_true, self.schema, self.tree, asked)
            self.refuses(InvalidFilter, items_of, asked)
            self.refuses(InvalidFilter, filter_text, asked)
        loose = {1: entry(0, "cn", "a", ("unit",), ("boss", "2"))}
        self.refuses(InvalidTree, value_at, self.schema, loose, None, 1)
        self.refuses(InvalidTree, numbers_true, Schema((), ()), self.tree, HAS)
        for number in (0, 77, True):
            self.assertIs(self.refuses(UnknownNumber, value_at, self.schema, self.tree, HAS, number).asked, number)


class TextTests(Tests):
    """The texts of filters [11.5]."""

    def cannot_stand(self, index, signs):
        """Tests the index of the first sign of a text that cannot stand, whatever follows."""
        for more in ("", ")", "(cn=*)", "*", "\\", "a" * 200):
            if index < len(signs):
                self.assertEqual(self.refuses(ParseError, read_filter, signs + more).index, index, signs + more)
        self.assertEqual(self.refuses(ParseError, read_filter, signs).index, index, signs)

    def beyond(self, signs):
        """Tests that a text would be that of no filter."""
        self.refuses(InvalidFilter, read_filter, signs)
        # A sign that cannot stand and an end that comes too early are told ahead of this.
        self.assertEqual(self.refuses(ParseError, read_filter, signs + ")").index, len(signs))
        self.assertEqual(self.refuses(ParseError, read_filter, signs[:-1]).index, len(signs) - 1)

    def reads(self, asked, signs):
        """Tests that a filter has a text, and is read from it."""
        self.assertEqual(filter_text(asked), signs)
        self.assertEqual(read_filter(signs), asked)

    def test_items(self):
        for item, signs in ITEMS.items():
            self.reads(item, signs)
        self.reads(("within", 10 ** 12), "(#1000000000000)")
        self.reads(("is", "a1b2", "x" * 100), "(a1b2=" + "x" * 100 + ")")
        self.reads(("from", "a" * 12, "="), "(" + "a" * 12 + ">==)")
        self.reads(("to", "a", ">"), "(a<=>)")
        self.reads(("is", "a", "=<>,&|!:#~"), "(a==<>,&|!:#~)")
        self.reads(("is", "a", " "), "(a= )")
        self.reads(("pieces", "a", " ", ("b",) * 8, " "), "(a= *b*b*b*b*b*b*b*b* )")

    def test_filters_within_filters(self):
        self.reads(EVERYTHING, "(&)")
        self.reads(NOTHING, "(|)")
        self.reads(("not", EVERYTHING), "(!(&))")
        self.reads(("and", (HAS, ("within", 1), NOTHING)), "(&(cn=*)(#1)(|))")
        self.reads(("or", (("not", HAS), ("and", (("class", "a"),)))), "(|(!(cn=*))(&(:a)))")
        self.reads(negated(HAS, 5), "(!(!(!(!(!(cn=*))))))")
        self.reads(wrapped(EVERYTHING, 5), "(&(|(&(|(&(&))))))")

    def test_signs_of_texts(self):
        for code in range(32, 127):
            sign = chr(code)
            written = "\\" + sign if sign in "()*\\" else sign
            self.reads(("is", "a", sign), f"(a={written})")
            self.reads(("is", "a", f"x{sign}y"), f"(a=x{written}y)")
            self.reads(("from", "a", sign), f"(a>={written})")
            self.reads(("to", "a", sign + sign), f"(a<={written}{written})")
            self.reads(("pieces", "a", sign, (sign, sign), sign), f"(a={written}*{written}*{written}*{written})")
            if sign in "()*\\":
                # Without its backslash such a sign does not stand for itself, but for a star and an end.
                if sign not in "*)":
                    self.cannot_stand(3 if sign == "(" else 4, f"(a={sign} ")
                    self.cannot_stand(5 if sign == "(" else 6, f"(a>=x{sign} ")
            else:
                # Other signs have no backslash.
                self.cannot_stand(4, f"(a=\\{sign}")
                self.cannot_stand(6, f"(a<=x\\{sign}")
                self.cannot_stand(6, f"(a=x*\\{sign}")

    def test_signs_that_cannot_stand(self):
        told = {
            "x": 0, ")": 0, " (&)": 0, "\\": 0, "()": 1, "((": 1, "( ": 1, "(*": 1, "(=": 1, "(A": 1, "(1": 1, "(a)": 2,
            "(a ": 2, "(aB": 2, "(a-": 2, "(a(": 2, "(a*": 2, "(a:": 2, "(a>a": 3, "(a>)": 3, "(a<>": 3, "(a< ": 3,
            "(a=)": 3, "(a=(": 3, "(a=a(": 4, "(a=**": 4, "(a=a**": 5, "(a=a*b**": 7, "(a=*(": 4, "(a=a*(": 5, "(a=*a(": 5,
            "(a>=)": 4, "(a<=)": 4, "(a>=*": 4, "(a<=*": 4, "(a>=a*": 5, "(a<=a*": 5, "(a<=(": 4, "(a>=a(": 5,
            "(:)": 2, "(:A": 2, "(:1": 2, "(:a ": 3, "(:a=": 3, "(:aA": 3, "(: a": 2, "(#)": 2, "(#0": 2, "(#-1": 2, "(#a": 2,
            "(# 1": 2, "(#1a": 3, "(#1 ": 3, "(#12,": 4, "(&&": 2, "(& ": 2, "(&a": 2, "(|*": 2, "(!)": 2, "(!!": 2,
            "(! (": 2, "(!a": 2, "(!(&)(": 5, "(!(&)!": 5, "(&(&) ": 5, "(|(a=*)&": 7, "(&((": 3, "(&(!)": 4,
            "(&))": 3, "(&)(&)": 3, "(a=b)x": 5, "(#1) ": 4, "(!(&)))": 6, "(&)\\": 3,
        }
        for signs, index in told.items():
            self.cannot_stand(index, signs)

    def test_ends_too_early(self):
        whole = [*ITEMS.values(), "(&(cn=*)(|(!(#10)))(a=b*c\\*d*e)(:w)(a>=\\()(a<=\\\\))", "(!(!(&)))", "(a=\\)*\\(*)"]
        for signs in whole:
            for end in range(len(signs)):
                self.assertEqual(self.refuses(ParseError, read_filter, signs[:end]).index, end, signs[:end])
            self.assertEqual(filter_text(read_filter(signs)), signs)

    def test_beyond_the_bounds(self):
        self.beyond("(" + "a" * 13 + "=*)")
        self.beyond("(:" + "a" * 13 + ")")
        self.beyond("(" + "a" * 3000 + "=b)")
        self.beyond("(a=" + "b" * 101 + ")")
        self.beyond("(a>=" + "b" * 101 + ")")
        self.beyond("(a<=" + "\\*" * 101 + ")")
        self.reads(("is", "a", "*" * 100), "(a=" + "\\*" * 100 + ")")
        for signs in ("(a=" + "b" * 101 + "*)", "(a=*" + "b" * 101 + ")", "(a=*" + "b" * 101 + "*)", "(a=x*b*" + "b" * 101 + "*)"):
            self.beyond(signs)
        self.beyond("(a=" + "*b" * 9 + "*)")
        self.reads(("pieces", "a", "", ("b",) * 8, ""), "(a=" + "*b" * 8 + "*)")
        for digits in ("1000000000001", "9" * 13, "1" + "0" * 13, "9" * 3990):
            self.beyond(f"(#{digits})")
        for signs in (filter_text(negated(HAS, 5)), filter_text(wrapped(EVERYTHING, 5)), filter_text(wrapped(HAS, 5))):
            self.beyond("(!" + signs + ")")
            self.beyond("(&(a=b)" + signs + "(|))")
        self.reads(("and", (HAS,) * 31), "(&" + "(cn=*)" * 31 + ")")
        self.beyond("(&" + "(cn=*)" * 32 + ")")
        self.beyond("(&" + "(&)" * 1200 + ")")
        self.beyond("(!" * 1300 + "(&)" + ")" * 1300)
        self.beyond("(&(&)" * 500 + ")" * 500)

    def test_texts_of_4000_signs(self):
        piece = "(a=" + "\\*" * 100 + ")"
        parts = "(&" + piece * 19
        last = "(a=" + "*".join(["b" * 16] * 4) + ")"
        signs = parts + last + "(:" + "c" * (4000 - len(parts + last) - 4) + "))"
        self.assertEqual(len(signs), 4000)
        self.refuses(InvalidFilter, read_filter, signs)
        longest = "(|" + piece * 19 + "(a=" + "x" * 100 + "*)" + "(b=" + "y" * (4000 - 2 - 19 * 204 - 106 - 5) + "))"
        while len(longest) > 4000:
            longest = longest.replace("x*", "*", 1)
        longest = longest.replace("y)", "y" * (4001 - len(longest)) + ")", 1)
        self.assertEqual(len(longest), 4000)
        self.reads(read_filter(longest), longest)
        for value in (longest + ")", longest + " ", "(" * 4001, " " * 4001, longest[:-1] + "\n"):
            self.assertIs(self.refuses(InvalidText, read_filter, value).value, value)
        self.assertEqual(self.refuses(ParseError, read_filter, longest[:-1] + " ").index, 3999)
        self.assertEqual(self.refuses(ParseError, read_filter, "(" * 4000).index, 1)
        self.assertEqual(self.refuses(ParseError, read_filter, "(!" * 2000).index, 4000)

    def test_many_filters(self):
        rng = random.Random("texts")
        signs = [chr(code) for code in range(32, 127)] + list("()*\\&|!=<>") * 6
        texts = [filter_text(asked) for asked in some_filters("texts", 150)]
        self.assertEqual(len({filter_text(asked) for asked in some_filters("texts", 150)}), len(set(texts)))
        for asked in some_filters("texts", 150):
            text = filter_text(asked)
            if len(text) > 4000:
                continue
            self.assertEqual(read_filter(text), asked)
            at = rng.randrange(len(text))
            other = text[:at] + rng.choice(signs) + text[at + rng.randrange(2):]
            try:
                # A text has just one filter, and a filter just one text.
                self.assertEqual(filter_text(read_filter(other)), other)
            except InvalidFilter:
                pass
            except ParseError as caught:
                self.assertTrue(at <= caught.index <= len(other))
                head = other[:caught.index]
                if head == "" or head != text and head[-1] != ")":
                    self.assertEqual(self.refuses(ParseError, read_filter, head).index, len(head))

    def test_the_first_sign_that_no_text_can_have(self):
        # Beginnings of texts, longer sign by sign: what can follow is told by trying to go on to whole texts.
        signs = "()*\\=><&|!:#a10 ,"
        heads = [""]
        rng = random.Random("heads")
        for many in range(7):
            longer = []
            for head in heads:
                for sign in signs:
                    caught = None
                    try:
                        read_filter(head + sign)
                    except ParseError as error:
                        caught = error.index
                    self.assertIn(caught, (None, many, many + 1), head + sign)
                    self.assertEqual(caught is None, is_whole_text(head + sign), head + sign)
                    self.assertEqual(caught != many, can_be_begun(head + sign), head + sign)
                    if caught != many:
                        longer.append(head + sign)
            heads = rng.sample(longer, min(400, len(longer)))

    def test_wrong_arguments(self):
        self.refuses_each(filter_text, [HAS], [(0, InvalidFilter, never)])
        self.refuses_each(items_of, [HAS], [(0, InvalidFilter, never)])
        for value in wrong_values():
            if isinstance(value, str) and "\n" not in value:
                self.assertIn(self.refuses(ParseError, read_filter, value).index, (0, len(value)))
            else:
                self.assertIs(self.refuses(InvalidText, read_filter, value).value, value)
        for value in (nested(8), ["(&)"], ("(&)",), "(&)\n", "(a=\n)"):
            self.assertIs(self.refuses(InvalidText, read_filter, value).value, value)
