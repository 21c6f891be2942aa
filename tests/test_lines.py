"""Tests of bailiwick.text.lines."""

import random
import re

from bailiwick.errors import InvalidDeed, InvalidSchema, InvalidText, InvalidTree, ParseError
from bailiwick.place.views import view
from bailiwick.rules.schemas import Class, Schema
from bailiwick.rules.types import Type
from bailiwick.text import lines
from bailiwick.text.lines import read_tree, read_tree_lax, read_units, read_units_lax, tree_text, units_text
from bailiwick.tree.deeds import is_unit
from bailiwick.tree.trees import entry_of
from tests.makers import asking_schema, some_tree
from tests.rulers import ruling_schema, some_deed, some_ruled_tree
from tests.samples import Tests, is_empty_dict, is_schema, sample_schema, sample_tree, wrong_values
from tests.test_deeds import wrong_deeds
from tests.test_trees import chain_tree, full_entry, wide_tree

NAME = ("name", "it")


def is_text_of_lines(value):
    """Whether a wrong value is a string of signs and newlines all the same."""
    return isinstance(value, str)


def are_no_units(value):
    """Whether a wrong value is a tuple of units all the same."""
    return isinstance(value, tuple) and value == ()


def plain_line(word, text):
    """A value line, told as the document tells it."""
    if text[0] in (" ", "=") or text[-1] == " ":
        return word + "==" + "".join({" ": "\\_", "\\": "\\\\"}.get(sign, sign) for sign in text)
    return f"{word}={text}"


def plain_fold(line):
    """The text of a line, folded as the document tells it."""
    rows = [line[:60]]
    line = line[60:]
    while line:
        rows.append(" " + line[:59])
        line = line[59:]
    return "".join(row + "\n" for row in rows)


def lax_line(rng, line):
    """A line as it can stand in a lax text, perhaps folded elsewhere and with remarks."""
    found = ""
    for sign in line:
        if found and rng.randrange(25) == 0:
            found += "\n" + " "
        found += sign
    found += "\n" + " \n" * (rng.randrange(20) == 0)
    while rng.randrange(12) == 0:
        found = f"# a remark{rng.randrange(9)}\n{' and more' if rng.randrange(2) else '#'}\n" + found
    return found


def lax_text(rng, text):
    """A lax text for a strict one."""
    found = []
    for record in text.split("\n\n") if text else []:
        rows = re.sub("\n ", "", record).strip("\n").split("\n")
        told = []
        for row in rows:
            head, sign, rest = re.match(r"(\*?(?:put: |drop: |by: )?[a-z][a-z0-9]*)(==?)?(.*)$", row).groups()
            if sign == "==" and rng.randrange(2) and rest[0] != "=":
                row = head + "=" + re.sub(r"\\(.)", lambda found: {"_": " ", "\\": "\\"}[found.group(1)], rest)
            elif sign == "=" and rng.randrange(3) == 0:
                row = head + "==" + rest.replace("\\", "\\\\").replace(" ", "\\_")
            told.append(lax_line(rng, row))
        found.append("".join(told))
    return "\n" * rng.randrange(3) + "".join(record + "\n" * rng.choice((1, 1, 2, 4)) for record in found) + "# end\n" * rng.randrange(2)


class LineTests(Tests):
    """Tests with a schema of each kind of texts."""

    def setUp(self):
        self.schema = Schema(
            (Type("name", "text"), Type("tag", "exact"), Type("size", "number"), Type("ok", "flag"), Type("boss", "link"),
             Type("longtypename", "exact"), Type("entry", "exact"), Type("class", "exact"), Type("a", "text")),
            (Class("unit", "shape", must=("name",), named=("name",), places=("", "unit")),))

    def one(self, *values, number=7, classes=("unit",), naming=NAME):
        """A tree of one entry, its values told as pairs."""
        return {number: entry_of(self.schema, 0, naming, classes, (naming, *values))}

    def is_strict(self, tree, text, schema=None):
        """Tests that a tree has a strict text, and that it is read from it alone."""
        schema = schema or self.schema
        self.assertEqual(tree_text(schema, tree), text)
        for read in (read_tree, read_tree_lax):
            told = read(schema, text)
            self.assertEqual(told, tree)
            self.assertEqual(list(told), sorted(tree))

    def is_lax(self, tree, text):
        """Tests that a lax text tells a tree, and strict reading refuses it."""
        self.assertEqual(read_tree_lax(self.schema, text), tree)
        self.refuses(ParseError, read_tree, self.schema, text)
        self.assertEqual(read_tree(self.schema, tree_text(self.schema, read_tree_lax(self.schema, text))), tree)

    def wrong(self, text, strict, lax=None, schema=None):
        """Tests the first wrong line of a text; `lax` is that of lax reading, if it is another one, -1 for none."""
        schema = schema or self.schema
        self.assertEqual(self.refuses(ParseError, read_tree, schema, text).index, strict, text)
        lax = strict if lax is None else lax
        if lax == -1:
            read_tree_lax(schema, text)
        else:
            self.assertEqual(self.refuses(ParseError, read_tree_lax, schema, text).index, lax, text)


class TreeTextTests(LineTests):
    """The texts of trees [22.1, 22.2, 22.3]."""

    def test_constant(self):
        self.assertEqual(lines.WIDTH, 60)

    def test_example(self):
        schema = Schema((Type("name", "text"),), ())
        tree = {7: (0, ("name", "it"), ("unit",), (("name", "a b", " A  b"), ("name", "it", "IT")))}
        self.is_strict(tree, "entry: 7 0\nclass: unit\nname==\\_A\\_\\_b\n*name=IT\n", schema)

    def test_records(self):
        self.is_strict({}, "")
        self.is_strict(self.one(), "entry: 7 0\nclass: unit\n*name=it\n")
        tree = {10 ** 12: (9, NAME, ("a", "b1", "unit"), (("name", "it", "IT"), ("size", "-5", "-5"), ("tag", "it", "it"))),
                9: (0, NAME, ("zz",), (("boss", "9", "9"), ("boss", "1000000000000", "1000000000000"), ("name", "it", "it")))}
        tree[9] = (0, NAME, ("zz",), tuple(sorted(tree[9][3])))
        self.is_strict(tree, "entry: 9 0\nclass: zz\nboss=1000000000000\nboss=9\n*name=it\n\n"
                             "entry: 1000000000000 9\nclass: a\nclass: b1\nclass: unit\n*name=IT\nsize=-5\ntag=it\n")

    def test_coded_values(self):
        told = {
            " ": "tag==\\_", "  ": "tag==\\_\\_", " a": "tag==\\_a", "a ": "tag==a\\_", "=": "tag===", "=a": "tag===a", "==": "tag====",
            "= \\": "tag===\\_\\\\", "a b": "tag=a b", "a=": "tag=a=", "a=b": "tag=a=b", "\\": "tag=\\", "\\_": "tag=\\_",
            " \\_": "tag==\\_\\\\_", "\\ ": "tag==\\\\\\_", " \\\\ ": "tag==\\_\\\\\\\\\\_", "*": "tag=*", "#": "tag=#", "a\\_ ": "tag==a\\\\_\\_",
            "tag==": "tag=tag==", "x  y": "tag=x  y", "entry: 7 0": "tag=entry: 7 0", "_": "tag=_", "\\\\": "tag=\\\\",
        }
        for text, line in told.items():
            self.assertEqual(line, plain_line("tag", text))
            self.is_strict(self.one(("tag", text)), f"entry: 7 0\nclass: unit\n*name=it\n{line}\n")
        self.is_strict(self.one(naming=("name", "= B ")), "entry: 7 0\nclass: unit\n*name===\\_B\\_\n")

    def test_types_with_words_of_lines(self):
        tree = self.one(("entry", "7 0"), ("class", "unit"), ("class", ": unit"))
        self.is_strict(tree, "entry: 7 0\nclass: unit\nclass=: unit\nclass=unit\nentry=7 0\n*name=it\n")

    def test_folds(self):
        head = "entry: 7 0\nclass: unit\n*name=it\n"
        # `tag=` and 56 signs make a line of 60.
        for many in (1, 55, 56):
            self.is_strict(self.one(("tag", "x" * many)), head + "tag=" + "x" * many + "\n")
        self.is_strict(self.one(("tag", "x" * 57)), head + "tag=" + "x" * 56 + "\n x\n")
        self.is_strict(self.one(("tag", "x" * 100)), head + "tag=" + "x" * 56 + "\n " + "x" * 44 + "\n")
        # Coded, a text of 100 signs can have 200; the star and the type count.
        for text in (" " * 100, "=" * 100, " " + "\\" * 99, "\\" * 99 + " ", "\\" * 100, "ab " * 33 + "c", ("a" * 55 + " ") + "b"):
            for word in ("tag", "longtypename"):
                self.is_strict(self.one((word, text)), "entry: 7 0\nclass: unit\n" + "".join(
                    sorted([plain_fold(plain_line(word, text)), "*name=it\n"], key=lambda line: line.lstrip("*"))))
        self.is_strict(self.one(naming=("name", "A" * 54)), "entry: 7 0\nclass: unit\n*name=" + "A" * 54 + "\n")
        self.is_strict(self.one(naming=("name", "A" * 55)), "entry: 7 0\nclass: unit\n*name=" + "A" * 54 + "\n A\n")
        # A last further line of just 60 signs.
        text = " " * 55 + "y"
        self.assertEqual([len(row) for row in plain_fold(plain_line("entry", text)).split("\n")], [60, 59, 0])
        self.is_strict(self.one(("tag", " " * 57)), head + "tag==" + "\\_" * 27 + "\\\n _" + "\\_" * 29 + "\n")
        # A blank at which a line is folded.
        self.is_strict(self.one(("tag", "x" * 55 + "  y")), head + "tag=" + "x" * 55 + " \n  y\n")
        self.is_strict(self.one(("tag", "x" * 56 + "  y")), head + "tag=" + "x" * 56 + "\n   y\n")

    def test_many_trees(self):
        schema = asking_schema()
        for seed in range(40):
            rng = random.Random(f"lines {seed}")
            tree = some_tree(f"lines {seed}", schema, rng.randrange(1, 25), 9)
            text = tree_text(schema, tree)
            self.is_strict(tree, text, schema)
            for _ in range(4):
                lax = lax_text(rng, text)
                self.assertEqual(read_tree_lax(schema, lax), tree)
                if lax != text:
                    self.refuses(ParseError, read_tree, schema, lax)
            view_of_somebody = view(schema, tree, None)
            self.is_strict(view_of_somebody, tree_text(schema, view_of_somebody), schema)

    def test_full_trees(self):
        schema = sample_schema()
        for tree in (wide_tree(60), chain_tree(8), {1: full_entry(60)}, sample_tree()):
            self.is_strict(tree, tree_text(schema, tree), schema)

    def test_wrong_arguments(self):
        self.refuses_each(tree_text, [sample_schema(), sample_tree()], [(0, InvalidSchema, is_schema), (1, InvalidTree, is_empty_dict)])
        for call in (read_tree, read_tree_lax):
            self.refuses_each(call, [self.schema, ""], [(0, InvalidSchema, is_schema), (1, InvalidText, is_text_of_lines)])
        for text in ("a\tb\n", "a\r\n", "\x00", "caf\u00e9\n", "\x7f", "entry: 7 0\nclass: unit\n*name=\u00e9\n", "\x0b", "\u2028"):
            for call in (read_tree, read_tree_lax):
                self.assertIs(self.refuses(InvalidText, call, self.schema, text).value, text)
            for call in (read_units, read_units_lax):
                self.assertIs(self.refuses(InvalidText, call, text).value, text)
        for value in wrong_values():
            if not isinstance(value, str):
                for call in (read_units, read_units_lax):
                    self.assertIs(self.refuses(InvalidText, call, value).value, value)


class WrongTreeTests(LineTests):
    """The first wrong lines of the texts of trees [22.5, 22.6]."""

    HEAD = "entry: 7 0\nclass: unit\n"

    def test_first_lines(self):
        for line in ("entry: 0 0", "entry: 7", "entry: 7 ", "entry: 07 0", "entry: 7 00", "entry:7 0", "entry: 7  0", "entry: 7 0 ",
                     "Entry: 7 0", "entry: 1000000000001 0", "entry: 7 1000000000001", "entry: -7 0", "entry: 7 -0", "entry 7 0", "7 0",
                     "entry: 7 0 0", "entry: +7 0", "class: unit", "name=it", "*name=it", "x", "add: 7 0", "entry: 7 a", "entry: ",
                     "entry: 77777777777777777777777777777777777777777777777777777 0", "entry:"):
            self.wrong(line + "\nclass: unit\n*name=it\n", 0)
            self.wrong(line + "\n", 0)
            self.wrong("entry: 5 0\nclass: unit\n*name=a\n\n" + line + "\nclass: unit\n*name=it\n", 4)

    def test_class_lines(self):
        for line in ("class: ", "class:unit", "class: Unit", "class: unit ", "class:  unit", "class: 1a", "class: " + "a" * 13, "class", "x",
                     "class: a b", "entry: 8 0", "name=it", "*name=it"):
            self.wrong("entry: 7 0\n" + line + "\n*name=it\n", 1)
        self.wrong("entry: 7 0\n\n", 1)
        self.wrong("entry: 7 0\nclass: b\nclass: a\n*name=it\n", 2)
        self.wrong("entry: 7 0\nclass: b\nclass: c\nclass: b\n*name=it\n", 3)
        self.wrong("entry: 7 0\nclass: b\nclass: b\n*name=it\n", 2)
        self.wrong("entry: 7 0\nclass: b\n*name=it\nclass: c\n", 3)
        self.is_strict({7: (0, NAME, ("a" * 12, "b"), (("name", "it", "it"),))}, "entry: 7 0\nclass: aaaaaaaaaaaa\nclass: b\n*name=it\n")

    def test_value_lines(self):
        for line in ("x=it", "name=", "name", "Name=it", "name =it", "size=05", "size=a", "size=--5", "size=1000000000000001", "ok=Yes", "boss=0", "boss=x",
                     "name==\\_", "tag==\\x", "tag==\\", "tag== a", "tag==a b\\_", "**name=it", "* name=it", "*", "=it", "tag==", "name: it", "entry: 9 0",
                     "tag==\\_\\", "tag==\\\\\\", "*name=it", "name=a", "name=A", "name=  ", "tag", "class: unit", "tag=", "zzz=a", "nowhere=7", "longtypenames=a"):
            self.wrong(self.HEAD + "*name=a\n" + line + "\n", 3)
            self.wrong(self.HEAD + "*name=a\n" + line + "\ntag=b\n\nx\n", 3)
        for line in ("boss=0", "boss=x", "boss=1000000000001", "boss=07", "a= ", "a=", "A=b"):
            self.wrong(self.HEAD + line + "\n*name=a\n", 2)
        # Lax, a text can be coded or not, whatever it begins and ends with.
        for line in ("name= it", "name=it ", "name==it", "tag==a", "tag==a\\\\b"):
            self.wrong(self.HEAD + "*name=a\n" + line + "\n", 3, -1)
        # What begins with a blank goes on with the line ahead.
        self.wrong(self.HEAD + " name=it\n*name=it\n", 2, 1)
        # A text that is folded and too long stands at its first line.
        self.wrong(self.HEAD + plain_fold("tag=" + "x" * 101) + "*name=that\n", 2)
        self.wrong(self.HEAD + plain_fold("tag=" + "x" * 500) + "*name=that\n", 2)
        self.wrong(self.HEAD + plain_fold("nowhere=" + "x" * 70) + "*name=that\n", 2)
        self.wrong(self.HEAD + "*name=it\n" + plain_fold("tag==" + "x" * 70 + "\\" + "x" * 20), 3)

    def test_order_of_values(self):
        self.wrong(self.HEAD + "*name=it\na=x\n", 3)
        self.wrong(self.HEAD + "*name=it\nname=a\n", 3)
        self.wrong(self.HEAD + "*name=it\nname=it\n", 3)
        # By type, form and text, as Python orders them: not by the text alone.
        self.wrong(self.HEAD + "*name=B\nname=a\n", 3)
        self.is_strict(self.one(("name", "a"), naming=("name", "B")), self.HEAD + "name=a\n*name=B\n")
        self.is_strict(self.one(("size", "10"), ("size", "9"), ("size", "-1")), self.HEAD + "*name=it\nsize=-1\nsize=10\nsize=9\n")
        self.wrong(self.HEAD + "*name=it\nsize=9\nsize=10\n", 4)
        # Two texts of one form ascend, but no entry has both.
        self.wrong(self.HEAD + "*name=IT\nname=it\n", 4)
        self.wrong(self.HEAD + "*name=it\nname=IT\n", 3)

    def test_namings(self):
        self.wrong(self.HEAD + "*name=a\n*name=it\n", 3)
        self.wrong(self.HEAD + "*name=a\n*tag=it\n", 3)
        self.wrong(self.HEAD + "name=a\n\nentry: 8 0\nclass: unit\n*name=it\n", 3)
        self.wrong(self.HEAD + "name=a\n", 3)
        self.wrong(self.HEAD + "*boss=7\n", 3)

    def test_order_of_entries(self):
        two = "class: unit\n*name=it\n"
        self.wrong("entry: 7 0\n" + two + "\nentry: 7 7\n" + two, 4)
        self.wrong("entry: 7 0\n" + two + "\nentry: 6 7\n" + two, 4)
        self.wrong("entry: 70 0\n" + two + "\nentry: 8 70\n" + two, 4)
        self.is_strict({7: self.one()[7], 8: (7, *self.one()[7][1:])}, "entry: 7 0\n" + two + "\nentry: 8 7\n" + two)

    def test_what_is_no_tree(self):
        # Each line can stand, but there is no such tree: the number of the lines.
        two = "class: unit\n*name=it\n"
        for text in ("entry: 7 8\n" + two, "entry: 7 7\n" + two, "entry: 7 0\n" + two + "\nentry: 8 0\n" + two,
                     "entry: 7 8\n" + two + "\nentry: 8 7\n" + two, "entry: 7 0\nclass: unit\nboss=9\n*name=it\n"):
            self.wrong(text, text.count("\n"))
            self.wrong(text + "\n", text.count("\n") + 1)
        chain = "\n".join([f"entry: {at} {at - 1}\n" + two for at in range(1, 10)])
        self.wrong(chain, chain.count("\n"))
        wide = "\n".join([f"entry: {at} 0\nclass: unit\n*name=a{at:02}\n" for at in range(1, 62)])
        self.wrong(wide, wide.count("\n"))
        full = "entry: 7 0\nclass: unit\n" + "".join([f"name=a{at:02}\n" for at in range(60)]) + "*name=it\n"
        self.wrong(full, 63)

    def test_records_that_end_too_early(self):
        for text in ("entry: 7 0\n", "entry: 7 0\nclass: unit\n", "entry: 7 0\nclass: unit\nname=it\n"):
            many = text.count("\n")
            self.wrong(text, many)
            self.wrong(text + "\n", many)
            self.wrong(text + "\n\nentry: 8 0\nclass: unit\n*name=it\n", many)
            self.wrong("entry: 5 0\nclass: unit\n*name=a\n\n" + text, many + 4)

    def test_empty_lines(self):
        record, other = self.HEAD + "*name=it\n", "entry: 8 0\nclass: unit\n*name=a\n"
        self.wrong("\n", 0, -1)
        self.wrong("\n\n", 0, -1)
        self.wrong("\n" + record, 0, -1)
        self.wrong(record + "\n\n" + other, 4, -1)
        self.wrong(record + "\n\n\n\n" + other, 4, -1)
        # Strict, another record must follow: the text ends too early.
        self.wrong(record + "\n", 4, -1)
        self.wrong(record + "\n\n", 4, -1)
        self.wrong(record + other, 3)
        self.wrong("entry: 7 0\n\nclass: unit\n*name=it\n", 1)
        for text in ("\n\n" + record, record + "\n\n", "\n" + record + "\n\n\n"):
            self.is_lax(self.one(), text)
        for text in ("\n", "\n\n\n", "# x\n", "#\n\n#\n"):
            self.is_lax({}, text)
            self.assertEqual(tree_text(self.schema, read_tree_lax(self.schema, text)), "")

    def test_last_lines_without_a_newline(self):
        record = self.HEAD + "*name=it\n"
        self.wrong(record[:-1], 2)
        self.wrong("entry: 7 0", 0)
        self.wrong("x", 0)
        self.wrong("#", 0)
        self.wrong(" ", 0)
        self.wrong(record + "\nentry: 8 0", 4)
        self.wrong(record + " ", 3)
        self.wrong(record + "# x", 3)
        # Behind what the lines ahead of it tell.
        self.wrong("entry: 7 0\nclass: Unit\n*name=it", 1)
        self.wrong("entry: 7 0\nname=it", 1)
        self.wrong(self.HEAD + "*name=it\n" + "tag=" + "x" * 56 + "\n x", 4)
        self.wrong(self.HEAD + "*name=it\n" + "xxx=" + "x" * 56 + "\n x", 3)

    def test_lines_that_begin_with_a_blank(self):
        record = self.HEAD + "*name=it\n"
        for line in (" ", " x", "  ", " " * 61, " " + "x" * 60):
            self.wrong(line + "\n", 0)
            self.wrong(line + "\n" + record, 0)
            self.wrong(record + "\n" + line + "\n", 4)
            self.wrong("\n" + line + "\n", 0, 1)
            # Strict, behind a line of fewer than 60 signs; lax, it goes on with it.
            self.assertEqual(self.refuses(ParseError, read_tree, self.schema, record + line + "\n").index, 3)
        self.is_lax(self.one(naming=("name", "itx")), record + " x\n")
        self.is_lax(self.one(), record + " \n")
        self.is_lax(self.one(naming=("name", "it  x")), record + "   x\n")
        self.is_lax(self.one(), "ent\n ry\n : 7\n  0\n \nclass: un\n it\n*\n na\n me=it\n")
        full = record + "tag=" + "x" * 56 + "\n"
        self.wrong(full + " \n", 4, -1)
        self.wrong(full + " " + "x" * 60 + "\n", 4, 3)
        self.wrong(full + " " + "x" * 40 + "\n x\n", 5, -1)
        self.assertEqual(read_tree(self.schema, full + " " + "x" * 44 + "\n"), self.one(("tag", "x" * 100)))
        # Strict, a line of more than 60 signs is folded.
        self.wrong(record + "tag=" + "x" * 57 + "\n", 3, -1)
        self.wrong("entry: 7 0" + " " * 60 + "\n", 0)
        # What the lines ahead of it tell comes first.
        self.wrong("entry: 7 0\nclass: Unit\n \n", 1, 1)
        self.wrong(self.HEAD + "tag=b\n*name=it\ntag=a\n" + "\n" + " x\n", 3)
        self.wrong(self.HEAD + "*name=it\nxxx=" + "x" * 56 + "\n " + "x" * 70 + "\n", 3)

    def test_remarks(self):
        record = self.HEAD + "*name=it\n"
        for remark in ("#\n", "# name=a\n", "#" * 99 + "\n", "# a\n b\n", "#\n \n", "# a\n" + " x" * 70 + "\n", "#\n#\n#x\n"):
            self.is_lax(self.one(), remark + record)
            self.is_lax(self.one(), record + remark)
            self.is_lax(self.one(), "entry: 7 0\n" + remark + "class: unit\n" + remark + "*name=it\n" + remark)
            self.is_lax(self.one(), remark + "\n" + remark + record + "\n" + remark + "\n")
        # A remark neither parts records nor hides that none is parted; blanks behind it go on with it.
        self.wrong(record + "# x\nentry: 8 0\nclass: unit\n*name=a\n", 3, 4)
        self.wrong("entry: 7 0\nclass: unit\n*name=i\n# x\n t\n", 3, -1)
        self.assertEqual(read_tree_lax(self.schema, "entry: 7 0\nclass: unit\n*name=i\n# x\n t\n"), self.one(naming=("name", "i")))
        self.wrong("entry: 7 0\n# x\n\n", 1, 2)
        self.wrong("# x\n# y\nx\n", 0, 2)
        self.wrong("# x\n\n y\n", 0, 2)
        # A line goes on with what is no remark though it has the sign.
        self.is_lax(self.one(("tag", "a# b")), record + "tag=a\n # b\n")

    def test_lax_values(self):
        record = self.HEAD + "*name=it\n"
        told = {"tag==a": "a", "tag== ": None, "tag= ": " ", "tag= a": " a", "tag=a ": "a ", "tag=a  ": "a  ", "tag==a\\_b": "a b", "tag==\\\\": "\\",
                "tag==a\\\\_b": "a\\_b", "tag==*": "*", "tag=\\_": "\\_", "tag=\\_ ": "\\_ ", "tag===": "=", "tag==a=": "a=", "tag==a b": None,
                "tag==\\": None, "tag==\\a": None, "tag==" + "\\_" * 100: " " * 100, "tag==" + "\\_" * 101: None, "tag=" + "x" * 100: "x" * 100}
        for line, text in told.items():
            if text is None:
                self.assertEqual(self.refuses(ParseError, read_tree_lax, self.schema, record + line + "\n").index, 3)
            else:
                self.assertEqual(read_tree_lax(self.schema, record + line + "\n"), self.one(("tag", text)), line)
                self.is_strict(self.one(("tag", text)), record + plain_fold(plain_line("tag", text)))
        self.is_lax(self.one(naming=("name", "  It ")), "entry: 7 0\nclass: unit\n*name=  It \n")
        self.is_lax(self.one(naming=("name", "it")), "entry: 7 0\nclass: unit\n*name==it\n")

    def test_changed_texts(self):
        schema = asking_schema()
        for seed in range(400):
            rng = random.Random(f"changed lines {seed}")
            text = tree_text(schema, some_tree(f"changed lines {seed % 20}", schema, 4, 6))
            if rng.randrange(2):
                text = lax_text(rng, text)
            for _ in range(rng.randrange(1, 3)):
                at = rng.randrange(len(text) + 1)
                text = rng.choice((text[:at] + text[at + 1:], text[:at] + rng.choice("\n\n  =#*\\_:ax019") + text[at:], text[:at]))
            self.keeps_to_the_first_wrong_line(read_tree, schema, text)
            self.keeps_to_the_first_wrong_line(read_tree_lax, schema, text)
            try:
                told = read_tree(schema, text)
            except ParseError:
                continue
            self.assertEqual(tree_text(schema, told), text)
            self.assertEqual(read_tree_lax(schema, text), told)

    def keeps_to_the_first_wrong_line(self, read, schema, text):
        """Tests that the lines ahead of the first wrong one can stand, and that it stands at the beginning of a fold."""
        rows = text.split("\n")
        many = len(rows) - (rows[-1] == "")
        try:
            read(schema, text)
        except ParseError as error:
            self.assertTrue(0 <= error.index <= many)
            ahead = "".join(row + "\n" for row in rows[:error.index])
            try:
                read(schema, ahead)
            except ParseError as other:
                self.assertEqual(other.index, error.index, text)


class UnitTextTests(LineTests):
    """The texts of units [22.4, 22.5, 22.6]."""

    ADD = ("add", 5, 0, ("name", " a"), ("unit", "a", "a"), (("name", " a"), ("tag", "b"), ("tag", "b")))
    MOVE = ("move", 3, 5, ("name", "b"), True)
    PARTS = (
        (("put", "tag", "a "), "put: tag==a\\_"), (("drop", "tag", "=a"), "drop: tag===a"), (("clear", "tag"), "clear: tag"),
        (("set", "tag", ()), "set: tag"), (("set", "tag", ("b", " a", "b")), "set: tag\ntag=b\ntag==\\_a\ntag=b"),
        (("raise", "size", 5), "raise: size 5"), (("raise", "size", -10 ** 19), "raise: size -10000000000000000000"), (("raise", "size", 0), "raise: size 0"),
        (("extras", ()), "extras:"), (("extras", ("b", "a", "b")), "extras:\nclass: b\nclass: a\nclass: b"), (("put", "nowhere", "x"), "put: nowhere=x"),
    )

    def is_strict_units(self, units, text):
        """Tests that units have a strict text, and are read from it alone."""
        self.assertEqual(units_text(units), text)
        self.assertEqual(read_units(text), units)
        self.assertEqual(read_units_lax(text), units)

    def wrong_units(self, text, strict, lax=None):
        """Tests the first wrong line of a text; `lax` is that of lax reading, if it is another one, -1 for none."""
        self.assertEqual(self.refuses(ParseError, read_units, text).index, strict, text)
        lax = strict if lax is None else lax
        if lax == -1:
            read_units_lax(text)
        else:
            self.assertEqual(self.refuses(ParseError, read_units_lax, text).index, lax, text)

    def test_deeds(self):
        self.is_strict_units((), "")
        self.is_strict_units(((self.ADD,),), "add: 5 0\nby: name==\\_a\nclass: unit\nclass: a\nclass: a\nname==\\_a\ntag=b\ntag=b\n")
        self.is_strict_units(((("add", 5, 9, ("x", "a"), ("unit",), ()),),), "add: 5 9\nby: x=a\nclass: unit\n")
        self.is_strict_units(((self.MOVE,),), "move: 3 5 keep\nby: name=b\n")
        self.is_strict_units(((("move", 3, 0, ("name", "b"), False),),), "move: 3 0 drop\nby: name=b\n")
        self.is_strict_units(((("remove", 10 ** 12),),), "remove: 1000000000000\n")
        self.is_strict_units(((("change", 3, ()),),), "change: 3\n")
        for part, text in self.PARTS:
            self.is_strict_units(((("change", 3, (part,)),),), f"change: 3\n{text}\n")
        parts = tuple([part for part, text in self.PARTS])
        self.is_strict_units(((("change", 3, parts),),), "change: 3\n" + "".join([text + "\n" for part, text in self.PARTS]))

    def test_units(self):
        unit, other = (self.MOVE, ("remove", 3), ("change", 4, (("extras", ("a",)),)), ("change", 4, ())), (("remove", 3),)
        text = "move: 3 5 keep\nby: name=b\nremove: 3\nchange: 4\nextras:\nclass: a\nchange: 4\n"
        self.is_strict_units((unit, other, other), text + "\nremove: 3\n\nremove: 3\n")
        self.is_strict_units(((("remove", 3),) * 20,), "remove: 3\n" * 20)
        self.is_strict_units((other,) * 70, "\n".join(["remove: 3\n"] * 70))

    def test_folds(self):
        for text in ("x" * 100, " " * 100, "=" + "\\" * 99, "x" * 51, "x" * 52, "x" * 53):
            deed = ("change", 3, (("put", "tag", text), ("set", "longtypename", (text, "a"))))
            self.is_strict_units(((deed,),), "change: 3\n" + plain_fold("put: " + plain_line("tag", text))
                                 + "set: longtypename\n" + plain_fold(plain_line("longtypename", text)) + "longtypename=a\n")
        deed = ("change", 3, (("raise", "longtypename", -(10 ** 39)),))
        self.is_strict_units(((deed,),), "change: 3\n" + plain_fold("raise: longtypename -1" + "0" * 39))

    def test_wrong_lines(self):
        for line in ("remove: 0", "remove: 03", "remove: 1000000000001", "remove:3", "remove: 3 ", "remove: a", "remove: ", "remove", "Remove: 3",
                     "move: 3 5", "move: 3 5 yes", "move: 3 5 keep ", "move: 0 5 keep", "move: 3 05 drop", "add: 3", "add: 0 3", "add: 3 0 0", "change: 0",
                     "change: 3 0", "by: ", "by: name", "by:name=a", "by: *name=a", "put: name", "put: name=", "put: Name=a", "put: name==\\",
                     "drop: x", "clear: ", "clear: a=b", "clear: A", "set: a b", "set:", "raise: size", "raise: size ", "raise: size +5", "raise: size 05",
                     "raise: size -0", "raise: size 5 ", "raise: Size 5", "raise: size 5 5", "raise: size x", "extras: ", "extras", "extras: a", "extras:a",
                     "class: ", "class: A", "class:a", "*name=a", "name", "=a", "entry: 3 0", "x", "undo"):
            # By its form alone, whatever stands ahead of it.
            self.wrong_units(line + "\n", 0)
            self.wrong_units("by: name=a\n" + line + "\n", 1)
            self.wrong_units("remove: 3\n\nname=a\n" + line + "\nx\n", 3)
        for line in ("by: name= a", "put: name==a", "name=a ", "#", "# x"):
            self.assertEqual(self.refuses(ParseError, read_units, "remove: 3\n" + line + "\n").index, 1)

    def test_very_long_numbers(self):
        # Python itself turns no text of very many digits into an integer.
        many = "7" * 5000
        for line in ("remove: " + many, "raise: size " + many, "raise: size -" + many, "move: 3 " + many + " keep", "change: " + many, "size=" + many):
            self.assertEqual(self.refuses(ParseError, read_units_lax, "remove: 3\n" + line + "\n").index, 1)
            self.assertEqual(self.refuses(ParseError, read_units, "remove: 3\n" + plain_fold(line)).index, 1)
        for line in ("entry: " + many + " 0", "entry: 8 " + many):
            self.assertEqual(self.refuses(ParseError, read_tree_lax, self.schema, line + "\n").index, 0)

    def test_what_makes_no_units(self):
        # Each line has a form that can stand, but the whole makes no units: the number of the lines.
        for text in ("by: name=a\n", "class: a\n", "name=a\n", "put: a=b\n", "extras:\n", "set: a\n", "clear: a\n", "raise: a 5\n", "drop: a=b\n",
                     "move: 3 5 keep\n", "move: 3 5 keep\nremove: 3\n", "move: 3 5 keep\nby: name=b\nby: name=b\n", "move: 3 5 keep\nby: name=b\nname=b\n",
                     "move: 3 5 keep\nby: name=b\nclass: b\n", "remove: 3\nby: name=a\n", "remove: 3\nput: a=b\n", "remove: 3\nname=b\n", "add: 3 0\n",
                     "add: 3 0\nby: name=a\n", "add: 3 0\nby: name=a\nname=a\n", "add: 3 0\nclass: unit\n", "add: 3 0\nby: name=a\nclass: b\nname=b\nclass: c\n",
                     "add: 3 0\nclass: unit\nby: name=a\n", "add: 3 0\nby: name=a\nclass: b\nput: a=b\n", "change: 3\nname=a\n", "change: 3\nclass: a\n",
                     "change: 3\nput: a=b\na=c\n", "change: 3\nset: a\nb=c\n", "change: 3\nset: a\na=c\nb=c\n", "change: 3\nset: a\nclass: a\n", "change: 3\nby: a=b\n",
                     "change: 3\nextras:\na=b\n", "change: 3\nclear: a\na=b\n", "change: 3\nraise: a 5\nclass: b\n", "remove: 3\n" * 21,
                     "change: 3\n" + "clear: a\n" * 101, "change: 3\nset: a\n" + "a=b\n" * 101, "change: 3\nextras:\n" + "class: a\n" * 101,
                     "add: 3 0\nby: name=a\n" + "class: a\n" * 101, "add: 3 0\nby: name=a\nclass: a\n" + "name=a\n" * 101,
                     "remove: 3\n\nname=a\n", "name=a\n\nremove: 3\n", "add: 3 0\n\nby: name=a\nclass: a\n"):
            self.wrong_units(text, text.count("\n"))
        for text in ("change: 3\n" + "clear: a\n" * 100, "change: 3\nset: a\n" + "a=b\n" * 100, "add: 3 0\nby: name=a\n" + "class: a\n" * 100 + "name=a\n" * 100):
            self.is_strict_units(read_units(text), text)

    def test_empty_lines(self):
        self.assertEqual(read_units_lax("\n\n\nremove: 3\n\n\n\nremove: 4\n\n"), ((("remove", 3),), (("remove", 4),)))
        for text in ("\n", "\nremove: 3\n", "remove: 3\n\n", "remove: 3\n\n\nremove: 4\n", "\n\n\n"):
            self.wrong_units(text, text.count("\n"), -1)
        self.wrong_units("remove: 3\n\n\nx\n", 3)
        self.wrong_units("move: 3 5 keep\n\nby: name=a\n", 3)

    def test_lines_that_cannot_be_lines(self):
        self.wrong_units("remove: 3", 0)
        self.wrong_units(" remove: 3\n", 0)
        self.wrong_units("remove: 3\n\n x\n", 2)
        self.wrong_units("remove: \n 3\n", 0, -1)
        self.assertEqual(self.refuses(ParseError, read_units, "remove: 3\n \n").index, 1)
        self.assertEqual(read_units_lax("remo\n ve: \n 3\n"), ((("remove", 3),),))
        self.wrong_units("remove: x\nremove: 3", 0)
        self.wrong_units("remove: 3\nremove: 3", 1)
        self.wrong_units("name=a\nremove: 3", 1)
        self.wrong_units("remove: 3\n" + "put: tag=" + "x" * 51 + "\n" + " " + "x" * 60 + "\n", 2, 1)

    def test_remarks(self):
        self.assertEqual(read_units_lax("# x\nchange: 3\n#\n \n y\nset: a\n# a=b\na=b\n#\n"), ((("change", 3, (("set", "a", ("b",)),)),),))
        self.assertEqual(read_units_lax("# x\n\n#\n"), ())

    def test_many_units(self):
        schema = ruling_schema()
        for seed in range(60):
            rng = random.Random(f"unit lines {seed}")
            tree = some_ruled_tree(f"unit lines {seed % 10}", schema, 6, 2)
            units = tuple([tuple([some_deed(rng, schema, tree, rng.randrange(101, 999)) for _ in range(rng.randrange(1, 6))])
                           for _ in range(rng.randrange(5))])
            text = units_text(units)
            self.assertEqual(read_units(text), units)
            lax = lax_text(rng, text)
            self.assertEqual(read_units_lax(lax), units)
            if lax != text:
                self.refuses(ParseError, read_units, lax)
            for _ in range(6):
                at = rng.randrange(len(text) + 1)
                changed = rng.choice((text[:at] + text[at + 1:], text[:at] + rng.choice("\n\n  =#*\\_:ax019") + text[at:], text[:at]))
                try:
                    told = read_units(changed)
                except ParseError as error:
                    self.assertTrue(0 <= error.index <= changed.count("\n"))
                    continue
                self.assertTrue(all(is_unit(unit) for unit in told))
                self.assertEqual(units_text(told), changed)

    def test_wrong_arguments(self):
        for value in wrong_values():
            if not are_no_units(value):
                self.refuses(InvalidDeed, units_text, value)
            self.refuses(InvalidDeed, units_text, (value,))
            self.refuses(InvalidDeed, units_text, ((("remove", 3),), value))
        for deed in wrong_deeds():
            self.refuses(InvalidDeed, units_text, ((deed,),))
        self.refuses(InvalidDeed, units_text, (("remove", 3),))
        self.refuses(InvalidDeed, units_text, [(("remove", 3),)])
        self.refuses(InvalidDeed, units_text, ((("remove", 3),) * 21,))
        self.refuses(InvalidDeed, units_text, ((),))
