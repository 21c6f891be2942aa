"""Tests of bailiwick.base.names."""

import itertools
import random
import re

from bailiwick.base.names import MOST_LEVELS, MOST_SIGNS, is_name, name_text, read_name
from bailiwick.errors import InvalidName, InvalidText, ParseError
from tests.samples import Tests, wrong_values

SIGN = r'(?:[^,=+"\\ ]|\\[,=+"\\ ])'
PAIR = rf" *[a-z][a-z0-9]{{0,11}} *= *{SIGN}(?: *{SIGN})* *"
WHOLE = re.compile(rf"(?: *|{PAIR}(?:,{PAIR}){{0,7}})")
ENDINGS = ("", "=b", "b", "a=b", ",", ",a=b")


def can_go_on(text):
    """Whether a short text is the beginning of the text of a name."""
    return any(WHOLE.fullmatch(text + ending) for ending in ENDINGS)


def first_wrong(text):
    """The index of the first sign with which a short text is no beginning any more, or the number of signs."""
    for at in range(len(text)):
        if not can_go_on(text[:at + 1]):
            return at
    return len(text)


def is_some_name(value):
    """Whether a wrong value is a name all the same."""
    return value in ((), (("a", "b"),))


class NameTests(Tests):
    """Names and their texts [3.1] to [3.5]."""

    def parses_at(self, index, text):
        """Tests that a text cannot be read, from an index on."""
        self.assertEqual(self.refuses(ParseError, read_name, text).index, index, text)

    def test_constants(self):
        self.assertEqual((MOST_LEVELS, MOST_SIGNS), (8, 4000))

    def test_example(self):
        told = [name_text((("cn", "Eve, A"), ("ou", " x"))), name_text(()), read_name("cn = a\\,b  , ou=\\ x"),
                read_name("  ")]
        self.assertEqual(told, ["cn=Eve\\, A,ou=\\ x", "", (("cn", "a,b"), ("ou", " x")), ()])

    def test_is_name(self):
        for value in ((), (("a", "b"),), (("a", "b"),) * 8, (("a1" * 6, "x" * 100),), (("a", " "),)):
            self.assertIs(is_name(value), True)
        for value in ((("a", "b"),) * 9, [("a", "b")], (["a", "b"],), (("A", "b"),), (("a", ""),), (("a", "x" * 101),),
                      (("a" * 13, "b"),), (("1a", "b"),), (("a", "b", "c"),), (("a",),), ("a", "b"), (("a", "b\n"),),
                      (("", "b"),), (("a_b", "c"),), (("a b", "c"),), ((None, "b"),), (("a", 1),), (("aA", "b"),)):
            self.assertIs(is_name(value), False)
        self.answers_all(is_name)

    def test_texts(self):
        for name, text in [
            ((("a", "b"),), "a=b"), ((("a", "b"), ("c", "d")), "a=b,c=d"), ((("a", ",=+\"\\"),), "a=\\,\\=\\+\\\"\\\\"),
            ((("a", " "),), "a=\\ "), ((("a", "  "),), "a=\\ \\ "), ((("a", "   "),), "a=\\  \\ "),
            ((("a", " b c "),), "a=\\ b c\\ "), ((("a", "#;<>"),), "a=#;<>"), ((("a", "="),), "a=\\="),
        ]:
            self.assertEqual(name_text(name), text)
            self.assertEqual(read_name(text), name)

    def test_blanks_that_mean_nothing(self):
        for text, name in [
            (" a=b", (("a", "b"),)), ("a =b", (("a", "b"),)), ("a= b", (("a", "b"),)), ("a=b ", (("a", "b"),)),
            ("  a  =  b  c  ,  d  =  e  ", (("a", "b  c"), ("d", "e"))), ("", ()), (" ", ()), (" " * 4000, ()),
            ("a=\\ ", (("a", " "),)), ("a= \\  ", (("a", " "),)), ("a=b\\ ", (("a", "b "),)), ("a=b \\ ", (("a", "b  "),)),
            ("a=b\\  ,c=d", (("a", "b "), ("c", "d"))), ("a=\\ b", (("a", " b"),)),
        ]:
            self.assertEqual(read_name(text), name)

    def test_signs_that_cannot_stand(self):
        for text, index in [
            ("=", 0), (",", 0), ("A=b", 0), ("1=b", 0), ("a", 1), ("a ", 2), ("a b=c", 2), ("a=", 2), ("a= ", 3), ("a=,", 2),
            ("a= ,", 3), ("a==", 2), ("a=b=c", 3), ("a=b+c", 3), ("a=\"b", 2), ("a=b,", 4), ("a=b, ", 5), ("a=b,,c=d", 4),
            ("a=\\", 3), ("a=\\b", 3), ("a=b\\", 4), ("a=b\\\\\\", 6), ("aB=c", 1), ("a-b=c", 1), ("  =", 2), ("  ,", 2),
            ("a=b,C=d", 4), ("a=b, c", 6),
        ]:
            self.parses_at(index, text)

    def test_short_texts_as_the_grammar_tells(self):
        for many in range(6):
            for signs in itertools.product("a1A =,\\+", repeat=many):
                text = "".join(signs)
                if WHOLE.fullmatch(text):
                    self.assertTrue(is_name(read_name(text)))
                else:
                    with self.assertRaises(ParseError) as caught:
                        read_name(text)
                    self.assertEqual(caught.exception.index, first_wrong(text), text)

    def test_long_types(self):
        self.assertEqual(read_name("a" * 12 + "=b"), (("a" * 12, "b"),))
        self.parses_at(12, "a" * 13 + "=b")
        self.parses_at(13, " " + "a" * 12 + "1")
        self.parses_at(13, "a" * 12 + " a=b")

    def test_long_values(self):
        full = "x" * 100
        self.assertEqual(read_name("a=" + full), (("a", full),))
        self.assertEqual(read_name("a=  " + full + "   "), (("a", full),))
        self.assertEqual(read_name("a=" + full + " ,b=c"), (("a", full), ("b", "c")))
        self.assertEqual(read_name("a=" + "\\," * 100), (("a", "," * 100),))
        self.assertEqual(read_name("a=x" + " " * 98 + "y"), (("a", "x" + " " * 98 + "y"),))
        self.parses_at(102, "a=" + full + "x")
        self.parses_at(103, "a=" + full + " x")
        self.parses_at(102, "a=" + full + "=")
        # A sign written with a backslash is found at the backslash, but only if it can follow it.
        self.parses_at(102, "a=" + full + "\\,")
        self.parses_at(102, "a=" + full + "\\ ")
        self.parses_at(104, "a=" + full + "  \\,")
        self.parses_at(103, "a=" + full + "\\x")
        self.parses_at(103, "a=" + full + "\\")
        self.parses_at(105, "a=" + full + "  \\x")
        # Blanks within a value count when a further sign follows, and are found at this sign.
        self.parses_at(102, "a=x" + " " * 99 + "y")
        self.parses_at(152, "a=x" + " " * 149 + "y")
        self.parses_at(152, "a=x" + " " * 149 + "\\ ")
        self.assertEqual(read_name("a=x" + " " * 149), (("a", "x"),))
        self.parses_at(202, "a=" + "\\," * 100 + "x")

    def test_many_pairs(self):
        eight = ",".join(["a=b"] * 8)
        self.assertEqual(read_name(eight), (("a", "b"),) * 8)
        self.assertEqual(read_name(eight + "  "), (("a", "b"),) * 8)
        for more in (",", ",c=d", ",=", ", "):
            self.parses_at(31, eight + more)
        self.parses_at(33, eight + "  ,c=d")
        self.parses_at(31, eight + "=")

    def test_lengths_of_texts(self):
        self.assertEqual(read_name("a=b" + " " * 3997), (("a", "b"),))
        self.assertEqual(len(self.refuses(InvalidText, read_name, "a=b" + " " * 3998).value), 4001)
        self.parses_at(3999, " " * 3999 + "=")
        self.parses_at(102, "a=b" + " " * 99 + "c")
        self.parses_at(0, "=" * 4000)
        for text in ("a=b\n", "\n", "a=\t", "a=\xe9", "x" * 4001):
            self.refuses(InvalidText, read_name, text)

    def test_each_name_is_read_from_its_text(self):
        chance = random.Random(3)
        signs = ",=+\"\\ aB1~"
        for _ in range(2000):
            name = tuple([
                ("a" + "b1" * chance.randrange(3), "".join(chance.choices(signs, k=chance.choice((1, 2, 3, 7, 100)))))
                for _ in range(chance.randrange(9))
            ])
            self.assertTrue(is_name(name))
            self.assertEqual(read_name(name_text(name)), name)

    def test_wrong_arguments(self):
        self.refuses_each(name_text, [()], [(0, InvalidName, is_some_name)])
        for value in wrong_values():
            if not isinstance(value, str) or "\n" in value:
                self.assertIs(self.refuses(InvalidText, read_name, value).value, value)
