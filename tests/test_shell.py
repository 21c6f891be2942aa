"""Tests of bailiwick.text.shell."""

import random

from bailiwick.ask.search import Search, find
from bailiwick.base.names import name_text
from bailiwick.errors import InvalidOperation, InvalidText, TooMany
from bailiwick.place.groups import members
from bailiwick.place.rights import is_granted
from bailiwick.place.views import done_by, view
from bailiwick.rules.schemas import Schema
from bailiwick.text.lines import tree_text
from bailiwick.text.shell import Shell
from bailiwick.tree.directory import Directory
from bailiwick.tree.trees import name_of, number_of
from tests.rulers import grants, rule, ruling_schema
from tests.samples import Tests, entry, wrong_values
from tests.test_rights import ANYONE, RIGHTS, SEE

WORDS, ABSENT, DENIED = "error words", "error absent", "error denied"


def shell_tree():
    """A right tree with groups, in which everybody may do nearly everything, and does not see what stands beneath 6."""
    return {
        1: entry(0, "cn", "one", ("unit",)), 2: entry(1, "cn", "two", ("unit",), ("mark", "5")),
        3: (2, ("cn", "ann b"), ("human",), (("boss", "5", "5"), ("boss", "60", "60"), ("cn", "ann b", " Ann  B"), ("mail", "a,b", "a,b"))),
        4: entry(3, "cn", "bob", ("human",)), 5: entry(2, "cn", "cy", ("human",)), 6: entry(0, "cn", "six", ("unit",)),
        7: entry(0, "label", "g", ("group",), ("member", "4"), ("member", "60"), ("chosen", "(mail=*)")),
        8: entry(0, "label", "h", ("group",)), 9: grants(0, "all", 1, *[("may", right) for right in RIGHTS], ANYONE),
        10: rule(6, "hide", ("rank", 5), SEE, ("what", "entry"), ("least", 1), ANYONE),
        60: entry(6, "cn", "hidden", ("unit",)),
    }


def is_text_of_signs(value):
    """Whether a wrong value is a line all the same."""
    return isinstance(value, str) and "\n" not in value and len(value) <= 400


class ShellTests(Tests):
    """Shells [28.1, 28.2]."""

    def setUp(self):
        self.schema = ruling_schema()
        self.directory = Directory(self.schema, shell_tree())
        self.shell = Shell(self.directory)

    def tells(self, line, answer):
        """Tests an answer, and that every line counts."""
        many = len(self.shell)
        self.assertEqual(self.shell.tell(line), answer, line)
        self.assertEqual(len(self.shell), many + 1)

    def tells_each(self, told):
        """Tests the answers to some lines, one after another."""
        for line, answer in told:
            self.tells(line, answer)

    def leaves(self, *lines, answer):
        """Tests that each of some lines gets an answer and changes nothing."""
        before = (self.directory.tree, self.directory.place, self.directory.used, self.shell.who)
        for line in lines:
            self.tells(line, answer)
        self.assertEqual((self.directory.tree, self.directory.place, self.directory.used, self.shell.who), before)

    def test_example(self):
        shell = Shell(Directory(Schema((), ())))
        told = [shell("add 3 0 group label=a b"), shell("show 3"), shell("find tree 0 (label=A*)"), shell("as nobody"), shell("name 3"), len(shell)]
        self.assertEqual(told, ["done", "entry: 3 0/class: group/*label=a b", "3", "done", "error absent", 5])

    def test_first(self):
        self.assertEqual((self.shell.who, len(self.shell)), (0, 0))

    def test_as(self):
        for line, who in (("as 3", 3), ("as nobody", None), ("as 60", 60), ("as 0", 0), ("as 3", 3), ("as 10", 10)):
            self.tells(line, "done")
            self.assertEqual(self.shell.who, who)
        # Any entry of the directory is let, also one that is not seen; others are absent.
        self.leaves("as 77", "as 1000000000000", answer=ABSENT)
        self.leaves("as", "as ", "as x", "as 03", "as 3 ", "as  3", "as Nobody", "as nobody ", "as -1", "as 1000000000001", "as 3 4", "As 3", "as house", answer=WORDS)

    def test_name(self):
        self.tells_each([("name 1", "cn=one"), ("name 3", "cn=\\ Ann  B,cn=two,cn=one"), ("name 60", "cn=hidden,cn=six"), ("name 77", ABSENT)])
        self.leaves("name", "name ", "name 0", "name x", "name 01", "name 1 ", "name 1 2", "name  1", "name -1", "name 1000000000001", "Name 1", " name 1", answer=WORDS)
        self.shell("as 4")
        self.tells_each([("name 4", "cn=bob,cn=\\ Ann  B,cn=two,cn=one"), ("name 60", ABSENT), ("name 6", "cn=six"), ("name 10", ABSENT), ("name 0", WORDS)])

    def test_number(self):
        self.tells_each([("number cn=one", "1"), ("number CN=one", WORDS), ("number cn = ANN b , cn=two,cn=ONE", "3"), ("number ", "0"), ("number    ", "0"), ("number cn=none", "none"),
                         ("number cn=hidden,cn=six", "60"), ("number nowhere=x", "none"), ("number cn=,", WORDS), ("number x", WORDS), ("number", WORDS), ("number cn=a+", WORDS), ("number 1", WORDS),
                         ("number cn=\\ ann b,cn=two,cn=one", "3"), ("number cn=bob,cn=a", "none")])
        self.tells("number " + ",".join(["cn=a"] * 8), "none")
        self.tells("number " + ",".join(["cn=a"] * 9), WORDS)
        self.shell("as nobody")
        self.tells_each([("number cn=hidden,cn=six", "none"), ("number cn=six", "6"), ("number ", "0")])

    def test_show(self):
        self.tells_each([("show 1", "entry: 1 0/class: unit/*cn=one"), ("show 3", "entry: 3 2/class: human/boss=5/boss=60/*cn==\\_Ann\\_\\_B/mail=a,b"), ("show 77", ABSENT), ("show 0", WORDS)])
        self.shell("as 5")
        # The record in the view: without links to what is not seen.
        self.tells_each([("show 3", "entry: 3 2/class: human/boss=5/*cn==\\_Ann\\_\\_B/mail=a,b"), ("show 60", ABSENT), ("show 7", "entry: 7 0/class: group/chosen=(mail=*)/*label=g/member=4")])
        self.shell("as 0")
        self.tells("put 5 mail=" + "x" * 57, "done")
        self.tells("show 5", "entry: 5 2/class: human/*cn=cy/mail=" + "x" * 55 + "/ xx")
        # Shared values are shown to the house, too.
        self.directory.do((("add", 70, 2, ("label", "s"), ("share",), (("label", "s"), ("mark", "9"))),))
        self.tells_each([("show 4", "entry: 4 3/class: human/*cn=bob/mark=9"), ("as nobody", "done"), ("show 4", "entry: 4 3/class: human/*cn=bob/mark=9")])
        self.leaves("show", "show ", "show x", "show 3 3", "show 03", answer=WORDS)

    def test_find(self):
        self.tells_each([
            ("find tree 0 (:human)", "3 4 5"), ("find tree 2 (cn=*)", "2 3 4 5"), ("find beneath 2 (cn=*)", "3 4 5"), ("find one 2 (cn=*)", "3 5"), ("find base 2 (cn=*)", "2"),
            ("find base 0 (cn=*)", "none"), ("find one 0 (:unit)", "1 6"), ("find tree 0 (cn= ann  B)", "3"), ("find tree 0 (&(:human)(!(mail=*)))", "4 5"), ("find tree 0 (#6)", "6 10 60"),
            ("find tree 77 (cn=*)", ABSENT), ("find tree 0 (|)", "none"), ("find tree 0 (none=x)", "none"), ("find tree 0 (cn=x y z)", "none"),
        ])
        self.leaves("find", "find tree", "find tree 0", "find tree 0 ", "find tree  (cn=*)", "find Tree 0 (cn=*)", "find all 0 (cn=*)", "find tree x (cn=*)", "find tree 0 cn=*", "find tree 0 (cn=*",
                    "find tree 0 (cn=*) ", "find tree 0  (cn=*)", "find tree 00 (cn=*)", "find tree 0 (&(&(&(&(&(&(&)))))))", "find 0 tree (cn=*)", "find tree 0 (cn=" + "x" * 101 + ")",
                    "find tree 77 x", answer=WORDS)
        self.shell("as nobody")
        self.tells_each([("find tree 0 (#6)", "6"), ("find tree 60 (cn=*)", ABSENT), ("find tree 6 (cn=*)", "6"), ("find one 6 (cn=*)", "none"), ("find tree 0 (boss=60)", "none"),
                         ("find tree 0 (boss=5)", "3")])
        self.shell("as 0")
        self.tells("find tree 0 (boss=60)", "3")

    def test_can(self):
        self.tells_each([("can see 60", "yes"), ("can add 0", "yes"), ("can write 3 cn", "yes"), ("can write 3 nowhere", "yes"), ("can see 77", ABSENT)])
        self.shell("as 4")
        self.tells_each([("can see 6", "yes"), ("can see 60", ABSENT), ("can see 0", "yes"), ("can write 3 mail", "yes"), ("can write 3 nowhere", "yes"), ("can remove 4", "yes")])
        self.directory.do((("change", 9, (("drop", "may", "write"), ("set", "what", ("entry", "cn")))),))
        self.tells_each([("can see 6", "yes"), ("can write 6", "no"), ("can write 6 cn", "no"), ("can see 6 cn", "yes"), ("can see 6 nick", "yes"), ("can see 6 mail", "no"), ("can see 6 nowhere", "no"),
                         ("can add 0", "yes"), ("can add 0 mail", "no")])
        self.leaves("can", "can see", "can see ", "can look 3", "can see x", "can see 3 ", "can see 3 Cn", "can see 3 cn cn", "can see 3  cn", "can See 3", "can all 3", "can see 03", "can 3 see",
                    "can see 3 " + "a" * 13, "can see 77 Cn", answer=WORDS)

    def test_members(self):
        self.tells_each([("members 7", "3 4 60"), ("members 8", "none"), ("members 77", ABSENT), ("members 3", WORDS), ("members 0", WORDS), ("members 9", WORDS)])
        self.leaves("members", "members ", "members x", "members 7 8", "members 07", answer=WORDS)
        self.shell("as nobody")
        # In the view: without what is not seen.
        self.tells_each([("members 7", "3 4"), ("members 60", ABSENT), ("members 10", ABSENT), ("members 5", WORDS)])

    def test_add(self):
        self.tells_each([("add 20 1 unit cn=New", "done"), ("show 20", "entry: 20 1/class: unit/*cn=New"), ("add 20 1 unit cn=other", "fallen used 20"), ("add 21 1 unit cn=NEW", "fallen taken 21"),
                         ("add 22 0 unit cn= a  b ", "done"), ("show 22", "entry: 22 0/class: unit/*cn==\\_a\\_\\_b\\_"), ("add 23 0 unit cn=a=b", "done"), ("add 24 0 unit cn==", "done"),
                         ("show 24", "entry: 24 0/class: unit/*cn==="), ("add 25 77 unit cn=x", ABSENT), ("add 26 0 nowhere cn=x", "fallen class 26"), ("add 26 0 unit nowhere=x", "fallen word 26"),
                         ("add 26 0 human cn=x", "fallen place 26"), ("add 26 0 unit mark=x", "fallen kind 26"), ("add 26 2 unit cn=  ", "fallen kind 26"), ("add 5 0 unit cn=x", "fallen used 5"),
                         ("add 26 0 unit boss=5", "fallen naming 26")])
        self.leaves("add", "add 30", "add 30 0", "add 30 0 unit", "add 30 0 unit ", "add 30 0 unit cn", "add 30 0 unit cn=", "add 30 0 unit =x", "add 30 0 unit Cn=x", "add 0 0 unit cn=x", "add 030 0 unit cn=x",
                    "add 30 x unit cn=x", "add 30 0 Unit cn=x", "add 30 0  cn=x", "add  30 0 unit cn=x", "add 30 0 unit cn=" + "x" * 101, "add 1000000000001 0 unit cn=x", "add 30 0 unit  cn=x",
                    "add x 77 unit cn=x", "add 30 77 unit cn", answer=WORDS)
        self.assertEqual(self.directory.place, 4)
        self.shell("as nobody")
        # N need not be seen: that it is used is told by the deed.
        self.tells_each([("add 60 1 unit cn=x", "fallen used 60"), ("add 30 60 unit cn=x", ABSENT), ("add 30 6 unit cn=hidden", "fallen taken 30"), ("add 30 6 unit cn=x", "done"), ("show 30", ABSENT),
                         ("name 30", ABSENT)])
        self.tells("add 31 1 unit cn=" + "x" * 100, "done")

    def test_changes(self):
        self.tells_each([
            ("put 5 mail=x", "done"), ("put 5 mail= y", "done"), ("show 5", "entry: 5 2/class: human/*cn=cy/mail==\\_y/mail=x"), ("drop 5 mail= y", "done"), ("drop 5 mail=none", "done"),
            ("put 5 boss=4", "done"), ("put 5 boss=77", "fallen link 5"), ("put 5 boss=x", "fallen kind 5"), ("put 5 nowhere=x", "fallen word 5"), ("clear 5 mail", "done"),
            ("show 5", "entry: 5 2/class: human/boss=4/*cn=cy"), ("clear 5 cn", "fallen naming 5"), ("clear 5 nowhere", "fallen word 5"), ("drop 5 cn=CY", "fallen naming 5"),
            ("raise 2 mark 3", "done"), ("raise 2 mark -10", "done"), ("show 2", "entry: 2 1/class: unit/*cn=two/mark=-2"), ("raise 2 mark 0", "done"), ("raise 5 mark 1", "fallen single 5"),
            ("raise 2 cn 1", "fallen kind 2"), ("raise 2 mark 1000000000000000", "done"), ("raise 2 mark 3", "fallen range 2"), ("raise 2 nowhere 1", "fallen word 2"),
            ("put 77 mail=x", ABSENT), ("drop 77 mail=x", ABSENT), ("clear 77 mail", ABSENT), ("raise 77 mark 1", ABSENT), ("put 5 code=x", "fallen may 5"),
        ])
        self.leaves("put", "put 5", "put 5 ", "put 5 mail", "put 5 mail=", "put x mail=a", "put 0 mail=a", "put 5  mail=a", "put 5 Mail=a", "drop 5", "drop 5 mail", "clear 5", "clear 5 ", "clear 5 Mail",
                    "clear 5 mail x", "clear 5 mail=x", "clear 0 mail", "raise 5 mark", "raise 5 mark ", "raise 5 mark +1", "raise 5 mark 01", "raise 5 mark -0", "raise 5 mark x", "raise 5 mark 1 ",
                    "raise 5 Mark 1", "raise 5 1 mark", "raise 77 mark x", "put 77 mail", "raise 5 mark 1.5", "put 5 mail=" + "x" * 101, answer=WORDS)
        self.shell("as nobody")
        self.tells_each([("put 60 mail=x", ABSENT), ("put 5 boss=60", "fallen absent 60"), ("put 5 boss=77", "fallen absent 77"), ("clear 10 rank", ABSENT), ("put 5 mail=x", "done")])
        self.tells("raise 5 mark " + "9" * 380, "fallen single 5")

    def test_move(self):
        self.tells_each([("move 4 2 keep cn=Bo", "done"), ("show 4", "entry: 4 2/class: human/*cn=Bo/cn=bob"), ("move 4 3 drop cn=Bob", "done"), ("show 4", "entry: 4 3/class: human/*cn=bob"),
                         ("move 2 3 keep cn=x", "fallen ring 2"), ("move 4 2 drop cn=CY", "fallen taken 4"), ("move 4 0 drop cn=x", "fallen place 4"), ("move 6 1 keep mail=m", "done"),
                         ("move 77 2 keep cn=x", ABSENT), ("move 4 77 keep cn=x", ABSENT), ("move 2 0 drop cn=two", "done")])
        self.leaves("move", "move 4", "move 4 2", "move 4 2 keep", "move 4 2 keep ", "move 4 2 cn=x", "move 4 2 yes cn=x", "move 4 2 Keep cn=x", "move 0 2 keep cn=x", "move 4 x keep cn=x", "move 4 2 keep cn",
                    "move 4 2  keep cn=x", "move 77 2 keep cn", "move 77 2 yes cn=x", answer=WORDS)
        self.shell("as nobody")
        self.tells_each([("move 60 0 keep cn=x", ABSENT), ("move 5 60 keep cn=x", ABSENT), ("move 5 2 keep cn=cyd", "done")])

    def test_remove(self):
        self.tells_each([("remove 5", "done"), ("remove 5", ABSENT), ("remove 2", "fallen beneath 2"), ("show 3", "entry: 3 2/class: human/boss=60/*cn==\\_Ann\\_\\_B/mail=a,b")])
        self.leaves("remove", "remove ", "remove 0", "remove x", "remove 4 4", "remove 04", answer=WORDS)
        self.shell("as 4")
        self.tells_each([("remove 60", ABSENT), ("remove 6", "fallen beneath 6")])

    def test_denied(self):
        self.directory.do((("change", 9, (("drop", "may", "write"), ("drop", "may", "add"), ("drop", "may", "remove"), ("drop", "may", "move"))),))
        self.shell("as 4")
        self.tells_each([("add 30 1 unit cn=x", "fallen denied 1"), ("add 30 0 unit cn=x", "fallen denied 0"), ("put 5 mail=x", "fallen denied 5"), ("remove 5", "fallen denied 5"), ("move 5 2 keep cn=x", "fallen denied 5"),
                         ("clear 5 mail", "fallen denied 5")])
        self.assertEqual(self.directory.place, 1)
        self.tells_each([("as 0", "done"), ("put 5 mail=x", "done")])

    def test_the_number_0(self):
        self.directory.do((("add", 30, 6, ("label", "a"), ("alias",), (("label", "a"), ("to", "5"))),))
        self.tells("remove 5", "fallen must 30")
        self.shell("as nobody")
        self.tells("remove 5", "fallen must 0")

    def test_undo_and_redo(self):
        self.leaves("undo", answer="error undo")
        self.leaves("redo", answer="error redo")
        self.leaves("undo ", "redo ", "undo 1", "Undo", "undo undo", "redo 0", answer=WORDS)
        self.tells_each([("put 5 mail=x", "done"), ("remove 5", "done"), ("undo", "1"), ("show 5", "entry: 5 2/class: human/*cn=cy/mail=x"), ("redo", "2"), ("redo", "error redo"), ("name 5", ABSENT)])
        self.tells("undo", "1")
        self.tells("undo", "0")
        self.tells("undo", "error undo")
        self.assertEqual(self.directory.tree, shell_tree())
        self.tells("redo", "1")
        # A unit that is done ends what can be redone; one that falls does not.
        self.tells("put 5 nowhere=x", "fallen word 5")
        self.tells("redo", "2")
        self.tells("undo", "1")
        self.tells("put 4 mail=x", "done")
        self.tells("redo", "error redo")
        # What was added and undone stays used.
        self.tells_each([("add 30 0 unit cn=x", "done"), ("undo", "2"), ("add 30 0 unit cn=x", "fallen used 30")])
        for who in ("3", "nobody"):
            self.shell("as " + who)
            self.leaves("undo", "redo", answer=DENIED)
            self.leaves("undo x", "redo ", answer=WORDS)

    def test_the_entry_that_the_shell_is_for(self):
        self.tells_each([("as 4", "done"), ("remove 4", "done")])
        self.assertIsNone(self.shell.who)
        self.leaves("undo", answer=DENIED)
        self.leaves("name 4", answer=ABSENT)
        # It stays nobody known, though the entry comes back.
        self.directory.undo()
        self.assertIn(4, self.directory.tree)
        self.tells("name 4", "cn=bob,cn=\\ Ann  B,cn=two,cn=one")
        self.assertIsNone(self.shell.who)
        # Also if somebody else removes it.
        self.tells("as 5", "done")
        self.directory.do((("remove", 5),))
        self.assertIsNone(self.shell.who)
        self.tells("can see 6", "yes")
        self.directory.undo()
        self.assertIsNone(self.shell.who)
        other = Shell(self.directory)
        other("as 5")
        self.shell("as 0")
        self.tells("remove 5", "done")
        self.assertIsNone(other.who)
        self.assertEqual(other("find tree 0 (cn=bob)"), "4")

    def test_the_entry_comes_back_between_two_lines(self):
        # Nothing is asked of the shell while its entry is gone.
        ways = [
            lambda: (self.directory.do((("remove", 12),)), self.directory.undo()),
            lambda: (self.directory.undo(), self.directory.redo()),
            lambda: (self.directory.undo(), self.directory.undo(), self.directory.redo(), self.directory.redo()),
            lambda: [Shell(self.directory)(line) for line in ("remove 12", "undo")],
            lambda: (self.directory.do((("remove", 12), ("remove", 4))), self.directory.undo(), self.directory.redo(), self.directory.undo()),
        ]
        self.tells_each([("put 4 mail=x", "done"), ("add 12 2 human cn=dan", "done")])
        for way in ways:
            for line in ("name 12", "as 77", "as", "undo", "put 12 mail=x"):
                self.tells("as 12", "done")
                way()
                self.assertIn(12, self.directory.tree)
                self.shell(line)
                self.assertIsNone(self.shell.who)
                self.leaves("undo", "redo", answer=DENIED)
                self.leaves("as 77", answer=ABSENT)
                if line.startswith("put"):
                    self.assertEqual(self.directory.undo(), 2)
                self.assertIsNone(self.shell.who)
                self.tells("as 12", "done")
                self.assertEqual(self.shell.who, 12)
                self.tells("as 12", "done")
                self.assertEqual(self.shell.who, 12)

    def test_an_entry_that_stays_is_asked_for_still(self):
        self.tells("as 4", "done")
        self.directory.do((("move", 4, 2, ("cn", "b"), False), ("change", 4, (("put", "mail", "x"),))))
        self.directory.do((("move", 3, 1, ("cn", "c"), False),))
        self.directory.do((("remove", 5),))
        self.assertEqual(self.shell.who, 4)
        for at in range(3):
            self.directory.undo()
            self.assertEqual(self.shell.who, 4)
        self.directory.redo()
        self.assertEqual(self.directory.do((("remove", 4), ("remove", 77)))[0], "fallen")
        self.assertEqual(self.shell.who, 4)
        # Neither the house nor nobody known is an entry that could go.
        for line, who in (("as 0", 0), ("as nobody", None)):
            self.tells(line, "done")
            self.directory.do((("remove", 4),))
            self.assertEqual(self.shell.who, who)
            self.directory.undo()
            self.assertEqual(self.shell.who, who)

    def test_the_rights_of_nobody_known_hold_then(self):
        known = ("who", "known")
        tree = {1: entry(0, "label", "a", ("group",)), 2: entry(0, "label", "b", ("group",)), 3: grants(0, "r", 1, ("may", "see"), known)}
        directory = Directory(Schema((), ()), tree)
        one, two = Shell(directory), Shell(directory)
        self.assertEqual([one("as 1"), two("as 2"), one("find tree 0 (label=*)"), two("can see 0")], ["done", "done", "1 2 3", "yes"])
        directory.do((("remove", 1),))
        directory.undo()
        self.assertEqual([one("find tree 0 (label=*)"), one("can see 0"), one("name 1"), one("show 2")], ["none", "no", ABSENT, ABSENT])
        self.assertEqual([two("find tree 0 (label=*)"), two("can see 0"), two.who, one.who], ["1 2 3", "yes", 2, None])
        self.assertEqual([one("number label=a"), one("as 1"), one("number label=a")], ["none", "done", "1"])

    def test_who_over_many_histories(self):
        # Against what is told of each step of a directory, one after another, by looking at its tree each time.
        gone = 0
        for seed in range(20):
            rng = random.Random(f"who {seed}")
            directory = Directory(self.schema, shell_tree())
            shells, plain = [Shell(directory) for _ in range(3)], [0, 0, 0]
            for at in range(150):
                way, one = rng.randrange(8), rng.randrange(3)
                number = rng.choice((3, 4, 5, 7, 8, 60, rng.randrange(100, 100 + at + 1)))
                if way == 0:
                    who = rng.choice((number, number, number, 0, None))
                    answer = shells[one]("as " + ("nobody" if who is None else str(who)))
                    self.assertEqual(answer, "done" if who in (0, None) or who in directory.tree else ABSENT)
                    plain[one] = who if answer == "done" else plain[one]
                elif way in (1, 2):
                    directory.do((("remove", number),))
                elif way == 3:
                    directory.do((("add", 100 + at, rng.choice((1, 2)), ("cn", f"n{at}"), ("unit",), (("cn", f"n{at}"),)),))
                elif way == 4:
                    shells[one](f"remove {number}")
                elif way in (5, 6) and directory.place > 0:
                    directory.undo()
                elif way == 7 and shells[one]("redo").startswith("error") and directory.place < 50:
                    shells[one](f"name {number}")
                # None of the shells is asked here, but for some times.
                gone += len([who for who in plain if who not in (0, None) and who not in directory.tree])
                plain = [who if who == 0 or who in directory.tree else None for who in plain]
                if rng.randrange(3) == 0:
                    self.assertEqual([shell.who for shell in shells], plain)
            self.assertEqual([shell.who for shell in shells], plain)
        self.assertGreater(gone, 20)

    def test_it_does_not_copy_the_directory(self):
        self.directory.do((("remove", 5),))
        self.tells("name 5", ABSENT)
        self.tells("remove 4", "done")
        self.assertNotIn(4, self.directory.tree)
        self.assertEqual(self.directory.place, 2)
        other = Shell(self.directory)
        self.assertEqual(other("undo"), "1")
        self.tells("name 4", "cn=bob,cn=\\ Ann  B,cn=two,cn=one")
        self.assertEqual((len(other), len(self.shell)), (1, 3))

    def test_nearly_right_lines(self):
        self.leaves("", " ", "x", "show", "help", "exit", "as0", "name1", "add", "name\\ 1", "NAME 1", "#", "shell 1", "tell", "fold", answer=WORDS)

    def test_words_ahead_of_absent(self):
        self.leaves("raise 77 mark x", "move 77 x keep cn=a", "move 77 78 keep cn", "find tree 77 (", "can see 77 X", "add x 77 unit cn=a", answer=WORDS)
        self.leaves("raise 77 nowhere 1", "move 77 78 keep nowhere=x", "find tree 77 (nowhere=*)", "can see 77 nowhere", "add 5 77 nowhere nowhere=a", "put 77 mark=x", answer=ABSENT)

    def test_lines_of_400_signs(self):
        line = "number cn=" + "x" * 90 + (",cn=" + "x" * 90) * 3
        line += "," + "cn=" + "y" * (400 - len(line) - 4)
        self.assertEqual(len(line), 400)
        self.tells(line, "none")
        self.tells("x" * 400, WORDS)
        many = len(self.shell)
        for text in (line + "y", "x" * 401, "name 1\n", "\n", "caf\u00e9", "name\t1", "\x00"):
            for call in (self.shell, self.shell.tell):
                self.assertIs(self.refuses(InvalidText, call, text).value, text)
        self.assertEqual(len(self.shell), many)

    def test_a_full_history(self):
        for at in range(1000):
            self.assertEqual(self.directory.do((("change", 5, (("set", "mark", (str(at),)),)),)), ("done", at + 1))
        many = len(self.shell)
        self.assertEqual(self.refuses(TooMany, self.shell.tell, "put 5 mail=x").most, 1000)
        self.assertEqual((len(self.shell), self.directory.place), (many, 1000))
        self.tells("undo", "999")

    def test_many_lines(self):
        # Each answer against what views, searches, rights, members and units of somebody tell.
        for seed in range(6):
            rng = random.Random(f"shell {seed}")
            directory = Directory(self.schema, shell_tree())
            shell = Shell(directory)
            for at in range(60):
                who, tree = shell.who, directory.tree
                now = view(self.schema, tree, who)
                number, above = rng.choice([*tree, 77]), rng.choice([0, *tree, 77])
                hidden = [each for each in (number, above) if each != 0 and each not in now]
                way = rng.randrange(9)
                if way == 0:
                    self.assertEqual(shell(f"name {number}"), name_text(name_of(now, number)) if number in now else ABSENT)
                elif way == 1:
                    told = tree_text(self.schema, {each: now[each] for each in now})
                    record = [each for each in told.split("\n\n") if each.startswith(f"entry: {number} ")]
                    self.assertEqual(shell(f"show {number}"), record[0].strip("\n").replace("\n", "/") if record else ABSENT)
                elif way == 2:
                    scope = rng.choice(("base", "beneath", "one", "tree"))
                    word, rows, _ = find(self.schema, now, Search(above, scope, where=("has", "cn")))
                    numbers = " ".join([str(row[0]) for row in rows]) or "none"
                    self.assertEqual(shell(f"find {scope} {above} (cn=*)"), numbers if word == "found" else ABSENT)
                elif way == 3:
                    right, word = rng.choice(RIGHTS), rng.choice((None, "mail", "cn"))
                    line = f"can {right} {above}" + ("" if word is None else f" {word}")
                    told = ABSENT if above != 0 and above not in now else "yes" if is_granted(self.schema, tree, who, right, above, word) else "no"
                    self.assertEqual(shell(line), told)
                elif way == 4:
                    told = ABSENT if 7 not in now else " ".join([str(each) for each in members(self.schema, now, 7)]) or "none"
                    self.assertEqual(shell("members 7"), told)
                elif way == 5:
                    name = name_of(tree, number) if number in tree else (("cn", "x"),)
                    found = number_of(self.schema, now, name)
                    self.assertEqual(shell("number " + name_text(name)), "none" if found is None else str(found))
                elif way == 6:
                    who = rng.choice((0, 0, None, *tree))
                    self.assertEqual(shell("as " + ("nobody" if who is None else str(who))), "done")
                else:
                    text = f"t{rng.randrange(4)}"
                    line, deed = rng.choice((
                        (f"put {number} mail={text}", ("change", number, (("put", "mail", text),))), (f"remove {number}", ("remove", number)),
                        (f"add {at + 100} {above} unit cn={text}", ("add", at + 100, above, ("cn", text), ("unit",), (("cn", text),))),
                        (f"put {number} boss={above}", ("change", number, (("put", "boss", str(above)),))),
                        (f"move {number} {above} keep cn={text}", ("move", number, above, ("cn", text), True))))
                    named = [number] if deed[0] in ("change", "remove") else [above] if deed[0] == "add" else [number, above]
                    told = done_by(self.schema, tree, who, (deed,), used=directory.used)
                    answer = "done" if told[0] == "done" else f"fallen {told[2]} {told[3]}"
                    self.assertEqual(shell(line), ABSENT if set(named) & set(hidden) else answer)

    def test_wrong_arguments(self):
        self.refuses_each(Shell, [self.directory], [(0, InvalidOperation, lambda value: isinstance(value, Directory))])
        self.refuses(InvalidOperation, Shell, Directory)
        for call in (self.shell, self.shell.tell):
            self.refuses_each(call, ["name 1"], [(0, InvalidText, is_text_of_signs)])
        for value in wrong_values():
            if is_text_of_signs(value):
                self.assertEqual(self.shell(value), WORDS)

    def test_other(self):
        self.cannot_iterate(self.shell)
        self.assertIs(self.shell == self.shell, True)
        self.assertIs(self.shell == Shell(self.directory), False)
        self.assertIs(self.shell != 1, True)
