"""Tests of bailiwick.base.kinds."""

import itertools

from bailiwick.base import kinds
from bailiwick.base.kinds import (
    KINDS, ORDERED, PIECED, does_match, form_of, is_fit, is_form, is_less, is_pattern, pattern_form,
)
from bailiwick.errors import InvalidOperation, InvalidText, InvalidWord
from tests.samples import Tests, never, wrong_values

SIGNS = "".join([chr(code) for code in range(32, 127)])


def is_kind(value):
    """Whether a wrong value is a kind all the same."""
    return isinstance(value, str) and value in KINDS


def is_some_text(value):
    """Whether a wrong value is a text all the same."""
    return isinstance(value, str) and 1 <= len(value) <= 100 and "\n" not in value


class FormTests(Tests):
    """Kinds and forms [0.7], [0.8], [2.1]."""

    def test_constants(self):
        self.assertEqual(KINDS, ("exact", "flag", "link", "number", "text"))
        self.assertEqual(ORDERED, ("exact", "number", "text"))
        self.assertEqual(PIECED, ("exact", "text"))
        self.assertEqual(kinds.MOST_VALUE, 10 ** 15)

    def test_example(self):
        told = [form_of("text", "  Red  Ink "), form_of("text", "  "), form_of("exact", " A"), form_of("number", "-0"),
                is_fit("flag", "Yes"), is_less("number", "-3", "10"), is_less("text", "-3", "10")]
        self.assertEqual(told, ["red ink", None, " A", None, False, True, True])

    def test_text(self):
        for text, form in [
            ("a", "a"), ("A", "a"), (" a", "a"), ("a ", "a"), ("a   b", "a b"), ("  A  B  ", "a b"), (" ", None),
            (" " * 100, None), ("Z" * 100, "z" * 100), ("~!@[`{", "~!@[`{"), (" " * 99 + "Q", "q"),
        ]:
            self.assertEqual(form_of("text", text), form)
            self.assertEqual(is_fit("text", text), form is not None)

    def test_exact(self):
        for text in ("a", "A", " ", "  a  ", "x" * 100, SIGNS[:60], SIGNS[60:]):
            self.assertEqual(form_of("exact", text), text)
            self.assertTrue(is_form("exact", text))

    def test_numbers(self):
        most = str(10 ** 15)
        for text in ("0", "1", "-1", "10", most, "-" + most, str(10 ** 15 - 1), "-" + str(10 ** 15 - 1)):
            self.assertEqual(form_of("number", text), text)
            self.assertTrue(is_form("number", text))
        over = str(10 ** 15 + 1)
        for text in ("-0", "+1", "01", "00", "-01", "--1", "-", "1.0", " 1", "1 ", "1e3", "a", over, "-" + over, "1-",
                     "9" * 100, "-" + "9" * 99, "0" * 100, "1_0", "0x1"):
            self.assertIsNone(form_of("number", text), text)
            self.assertFalse(is_form("number", text))

    def test_flags(self):
        self.assertEqual([form_of("flag", text) for text in ("yes", "no")], ["yes", "no"])
        for text in ("Yes", "NO", " yes", "yes ", "y", "true", "1"):
            self.assertIsNone(form_of("flag", text))

    def test_links(self):
        for text in ("1", "9", "10", str(10 ** 12), str(10 ** 12 - 1)):
            self.assertEqual(form_of("link", text), text)
        for text in ("0", "-1", "01", "+1", str(10 ** 12 + 1), "a", " 1", "1 ", "-", "9" * 100):
            self.assertIsNone(form_of("link", text))

    def test_a_form_is_the_form_of_itself(self):
        texts = ["".join(signs) for many in (1, 2, 3, 4) for signs in itertools.product(" aA1-0", repeat=many)]
        for kind in KINDS:
            for text in texts:
                form = form_of(kind, text)
                self.assertEqual(is_fit(kind, text), form is not None)
                self.assertEqual(is_form(kind, text), form == text)
                if form is not None:
                    self.assertEqual(form_of(kind, form), form)
                    self.assertTrue(is_form(kind, form))

    def test_every_sign_and_no_other(self):
        for sign in SIGNS:
            self.assertTrue(is_fit("exact", sign))
        for sign in ("\n", "\t", "\x00", "\x1f", "\x7f", "\x80", "\xe9", "\u0661", "\u2003", "a\n", "\r"):
            self.assertFalse(is_fit("exact", sign))
            self.assertFalse(is_fit("text", sign))
            self.refuses(InvalidText, form_of, "exact", sign)

    def test_lengths(self):
        self.assertEqual(form_of("exact", "x" * 100), "x" * 100)
        self.refuses(InvalidText, form_of, "exact", "x" * 101)
        self.refuses(InvalidText, form_of, "text", "")
        # Signs count before blanks are lost.
        self.refuses(InvalidText, form_of, "text", "a" + " " * 100)

    def test_wrong_arguments(self):
        self.refuses_each(form_of, ["text", "a"], [(0, InvalidWord, is_kind), (1, InvalidText, is_some_text)])
        for call in (is_fit, is_form):
            self.refuses_each(call, ["text", "a"], [(0, InvalidWord, is_kind)])
            for kind in KINDS:
                self.answers_all(call, (kind,))


class OrderTests(Tests):
    """The order of forms [2.1]."""

    def test_numbers(self):
        row = ["-" + str(10 ** 15), "-10", "-9", "-1", "0", "1", "2", "10", str(10 ** 15)]
        for (at, one), (to, other) in itertools.product(enumerate(row), repeat=2):
            self.assertIs(is_less("number", one, other), at < to)

    def test_strings(self):
        for one, other in itertools.product(["-3", "10", "9", "a", "a b", "ab", "b"], repeat=2):
            self.assertIs(is_less("text", one, other), one < other)
            self.assertIs(is_less("exact", one, other), one < other)
        self.assertTrue(is_less("exact", "B", "a"))

    def test_wrong_arguments(self):
        def is_form_here(value):
            return is_form("text", value)

        self.refuses_each(is_less, ["text", "a", "b"], [
            (0, InvalidWord, is_kind), (1, InvalidOperation, is_form_here), (2, InvalidOperation, is_form_here),
        ])
        for kind, form in (("flag", "yes"), ("link", "1")):
            self.refuses(InvalidOperation, is_less, kind, form, form)
            self.refuses(InvalidOperation, is_less, kind, "", None)
        for one, other in (("A", "b"), ("b", "A"), ("a ", "b"), ("b", " a")):
            self.refuses(InvalidOperation, is_less, "text", one, other)
        self.refuses(InvalidOperation, is_less, "number", "01", "1")


def can_part(form, pieces):
    """Whether a form is the pieces one after another, with any signs between them, tried in every way."""
    if len(pieces) == 1:
        return form.endswith(pieces[0])
    first, *rest = pieces
    if not form.startswith(first):
        return False
    left = form[len(first):]
    if len(rest) == 1:
        return can_part(left, rest)
    return any(can_part(left[at:], rest) for at in range(len(left) + 1))


class PatternTests(Tests):
    """Patterns [2.2], [2.3]."""

    def test_is_pattern(self):
        for value in (("a", (), ""), ("", (), "b"), ("", ("c",), ""), ("a", ("b",) * 8, "c"), (" ", (" ",), " "),
                      ("x" * 100, ("x" * 100,), "x" * 100), ("A", ("a", "a"), "")):
            self.assertIs(is_pattern(value), True)
        for value in (("", (), ""), ("a", ("b",) * 9, ""), ("a", ("",), ""), ("a", ["b"], ""), ["a", (), ""], ("a", ()),
                      ("a", (), "", ""), ("x" * 101, (), ""), ("", ("x" * 101,), ""), ("", (), "x" * 101), ("a\n", (), ""),
                      (None, (), "a"), ("a", (), None), ("a", None, ""), ("a", "b", "c"), (1, (), "a"), ("a", (1,), "")):
            self.assertIs(is_pattern(value), False)
        self.answers_all(is_pattern)
        for value in wrong_values():
            if value != "":
                self.assertEqual(is_pattern((value, (), "a")), is_some_text(value))
                self.assertEqual(is_pattern(("a", (), value)), is_some_text(value))
            self.assertEqual(is_pattern(("", (value,), "")), is_some_text(value))

    def test_forms(self):
        for pattern, form in [
            (("Re", ("D  i",), "K"), ("re", ("d i",), "k")),
            (("  A  b  ", (), ""), ("a b ", (), "")),
            (("", (), "  A  b  "), ("", (), " a b")),
            (("", ("  A  ",), ""), ("", (" a ",), "")),
            (("", ("  ",), ""), ("", (" ",), "")),
            (("a", ("  ", " "), "b"), ("a", (" ", " "), "b")),
            ((" ", (), "b"), None), (("b", (), "  "), None), (("  ", ("a",), "b"), None),
        ]:
            self.assertEqual(pattern_form("text", pattern), form)
            self.assertEqual(pattern_form("exact", pattern), pattern)
            for kind in ("flag", "link", "number"):
                self.assertIsNone(pattern_form(kind, pattern))

    def test_matches(self):
        for kind, pattern, form, told in [
            ("exact", ("ab", (), "bc"), "abc", False), ("exact", ("ab", (), "bc"), "abbc", True),
            ("exact", ("ab", (), "bc"), "abxbc", True), ("exact", ("a", (), ""), "a", True),
            ("exact", ("a", (), "a"), "a", False), ("exact", ("", ("aa", "aa"), ""), "aaa", False),
            ("exact", ("", ("aa", "aa"), ""), "aaaa", True), ("exact", ("a", ("b", "c"), "d"), "acbd", False),
            ("exact", ("a", ("b", "c"), "d"), "axbxcxd", True), ("exact", ("A", (), ""), "a", False),
            ("text", ("A", (), ""), "abc", True), ("text", ("", (" ",), ""), "red ink", True),
            ("text", ("", (" ",), ""), "red", False), ("text", (" ", (), "a"), "a", False),
            ("text", ("red  ", (), ""), "red ink", True), ("text", ("red  ", (), ""), "red", False),
            ("number", ("1", (), ""), "1", False), ("flag", ("y", (), ""), "yes", False),
            ("link", ("", ("1",), ""), "1", False),
        ]:
            self.assertIs(does_match(kind, pattern, form), told, (kind, pattern, form))

    def test_matches_as_trying_every_way_does(self):
        pieces = ["", "a", "b", "ab", "ba", "aa"]
        middles = [(), ("a",), ("ab",), ("b", "a"), ("aa", "b")]
        forms = ["".join(signs) for many in range(1, 6) for signs in itertools.product("ab", repeat=many)]
        for first, row, last in itertools.product(pieces, middles, pieces):
            if is_pattern((first, row, last)):
                for form in forms:
                    told = can_part(form, [first, *row, last])
                    self.assertIs(does_match("exact", (first, row, last), form), told, (first, row, last, form))

    def test_eight_middles(self):
        self.assertTrue(does_match("exact", ("", ("a",) * 8, ""), "a" * 8))
        self.assertFalse(does_match("exact", ("", ("a",) * 8, ""), "a" * 7))

    def test_wrong_arguments(self):
        good = ("a", (), "b")
        self.refuses_each(pattern_form, ["text", good], [(0, InvalidWord, is_kind), (1, InvalidOperation, never)])
        self.refuses_each(does_match, ["exact", good, "ab"], [
            (0, InvalidWord, is_kind), (1, InvalidOperation, never), (2, InvalidOperation, is_some_text),
        ])
        # The form is asked even where the pattern does not fit.
        for kind, form in (("text", "A"), ("text", "a "), ("number", "01"), ("flag", "Yes"), ("link", "0")):
            self.refuses(InvalidOperation, does_match, kind, good, form)
        self.refuses(InvalidOperation, does_match, "text", (" ", (), "a"), "A")
