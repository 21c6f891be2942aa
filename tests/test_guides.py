"""Tests of bailiwick.far.guides."""

import random

from bailiwick.ask.search import SCOPES, Search, find
from bailiwick.errors import InvalidName, InvalidOperation, InvalidSchema, InvalidTree, UnknownName
from bailiwick.far.guides import Guide, is_trace
from bailiwick.far.holdings import Server, cut_tree
from bailiwick.place.views import view
from bailiwick.tree.trees import number_of
from tests.makers import asking_schema, some_tree
from tests.rulers import ruling_schema, some_ruled_tree, somebody
from tests.samples import Tests, is_empty_dict, is_schema, never, sample_schema, sample_tree, wrong_values
from tests.test_holdings import are_name_pairs, is_some_question, plain_answer, plain_number, plain_root, some_name, some_plan, some_search
from tests.test_trees import chain_tree


def plain_ask(schema, tree, plan, first, name, search):
    """What a guide tells, told as the document tells it."""
    asked = []

    def led(server, name, scope):
        while True:
            step = Search(0, scope, where=search.where, types=search.types)
            answer = plain_answer(schema, tree, plan, server, name, step)
            asked.append((server, name, scope))
            if answer[0] != "refer":
                return answer
            server = answer[1]

    answer = led(first, name, search.scope)
    if answer[0] == "missing":
        return (*answer, tuple(asked))
    rows, ahead = [*answer[1]], [*answer[2]]
    while ahead:
        _, found, more = led(*ahead[0])
        rows, ahead = [*rows, *found], [*ahead[1:], *more]
    return ("found", tuple(sorted(rows, key=lambda row: row[0])), tuple(asked))


def plain_place(schema, tree, plan, name):
    """The server in whose holding the last entry of a name stands that is there."""
    while plain_number(schema, tree, name) is None:
        name = name[1:]
    return plan[plain_root(tree, plan, plain_number(schema, tree, name))]


class GuidedTests(Tests):
    """Tests with a tree that three servers hold."""

    ONE = (("cn", "one"),)
    TWO = (("cn", "two"), ("cn", "one"))
    ANN = (("cn", "Ann"), *TWO)
    BOB = (("cn", "Bob  B"), *ANN)

    def setUp(self):
        self.schema = sample_schema()
        self.tree = sample_tree()
        self.plan = {0: "r", 2: "s", 10: "r", 20: "t"}

    def guide(self):
        """A guide with the servers of the plan."""
        return Guide(cut_tree(self.schema, self.tree, self.plan))


class GuideTests(GuidedTests):
    """Guides [24.1, 24.2, 0.20]."""

    def tells(self, first, name, search, *asked):
        """Tests what a guide asks and tells, and that the tree tells the same."""
        told = self.guide().ask(first, name, search)
        self.assertEqual(told[2], asked)
        self.agrees(told, first, name, search)

    def agrees(self, told, first, name, search):
        """Tests an answer against the tree, and what was asked for it against the bounds."""
        number = plain_number(self.schema, self.tree, name)
        if number is None:
            many = max([many for many in range(len(name)) if plain_number(self.schema, self.tree, name[len(name) - many:]) is not None])
            self.assertEqual(told[:2], ("missing", many))
        else:
            word, rows, more = find(self.schema, self.tree, search.at(number))
            self.assertEqual((told[0], told[1], word, more), ("found", rows, "found", False))
        asked = told[2]
        self.assertEqual(len(asked), len(set(asked)))
        self.assertLessEqual(len(asked), 3 * len(self.plan))
        self.assertEqual(asked[0], (first, name, search.scope))
        self.assertIs(is_trace(self.schema, self.tree, self.plan, asked), True)

    def test_names(self):
        self.assertEqual(self.guide().names, ("r", "s", "t"))
        self.assertEqual(Guide({}).names, ())

    def test_the_root(self):
        tree = (("s", self.TWO, "tree"), ("r", self.ANN, "tree"), ("t", self.BOB, "tree"))
        self.tells("r", (), Search(0), ("r", (), "tree"), *tree)
        self.tells("r", (), Search(0, "beneath"), ("r", (), "beneath"), *tree)
        self.tells("s", (), Search(0), ("s", (), "tree"), ("r", (), "tree"), *tree)
        self.tells("t", (), Search(0), ("t", (), "tree"), ("r", (), "tree"), *tree)
        self.tells("s", (), Search(0, "one"), ("s", (), "one"), ("r", (), "one"))
        self.tells("r", (), Search(0, "base"), ("r", (), "base"))

    def test_entries(self):
        self.tells("r", self.ONE, Search(0, "one"), ("r", self.ONE, "one"), ("s", self.TWO, "base"))
        name = (("cn", "ANN"), ("cn", "Two"), ("cn", "oNE"))
        self.tells("s", name, Search(0), ("s", name, "tree"), ("r", name, "tree"), ("t", self.BOB, "tree"))
        self.tells("t", self.TWO, Search(0, "base"), ("t", self.TWO, "base"), ("r", self.TWO, "base"), ("s", self.TWO, "base"))
        self.tells("r", self.BOB, Search(0, "base"), ("r", self.BOB, "base"), ("t", self.BOB, "base"))

    def test_missing(self):
        name = (("cn", "x"), *self.TWO)
        self.tells("t", name, Search(0), ("t", name, "tree"), ("r", name, "tree"), ("s", name, "tree"))
        name = (("cn", "x"), ("cn", "y"), *self.BOB)
        self.tells("t", name, Search(0, "one"), ("t", name, "one"))
        name = (("cn", "x"),) * 12
        self.tells("s", name, Search(0, "base"), ("s", name, "base"), ("r", name, "base"))

    def test_the_first_that_it_got_is_asked_first(self):
        # 1 (2 (3 (4))) and 5, 6 beneath 1: the triples of an answer come behind those that are still there.
        tree = {1: sample_tree()[1]}
        for number, above in ((2, 1), (3, 2), (4, 3), (5, 1), (6, 5)):
            tree[number] = (above, ("cn", f"u{number}"), ("unit",), (("cn", f"u{number}", f"u{number}"),))
        self.tree, self.plan = tree, {0: "r", 2: "b", 3: "c", 4: "d", 5: "e", 6: "a"}
        asked = self.guide().ask("r", (), Search(0))[2]
        self.assertEqual([server for server, name, scope in asked], ["r", "b", "e", "c", "a", "d"])
        self.assertIs(is_trace(self.schema, tree, self.plan, asked), True)
        for at in range(1, 5):
            other = list(asked)
            other[at:at + 2] = other[at + 1], other[at]
            self.assertIs(is_trace(self.schema, tree, self.plan, tuple(other)), False)

    def test_a_chain(self):
        self.tree = chain_tree(8)
        numbers = sorted(self.tree)
        name = tuple([self.tree[number][1] for number in numbers[::-1]])
        self.assertEqual(number_of(self.schema, self.tree, name), numbers[-1])
        for plan in ({number: f"s{number}" for number in (0, *numbers)}, {number: f"s{number % 2}" for number in (0, *numbers)},
                     {0: "a"}, {0: "a", numbers[4]: "b"}, {number: "a" for number in (0, *numbers)}):
            self.plan = plan
            guide = self.guide()
            for first in guide.names:
                for many in range(9):
                    for scope in SCOPES:
                        search = Search(0, scope)
                        self.agrees(guide.ask(first, name[8 - many:], search), first, name[8 - many:], search)

    def test_many_plans(self):
        self.schema = asking_schema()
        for seed in range(60):
            rng = random.Random(f"guides {seed}")
            self.tree = some_tree(f"guides {seed}", self.schema, rng.randrange(1, 18), 4)
            self.plan = some_plan(rng, self.tree, rng.choice((2, 6, 20)))
            guide = self.guide()
            for at in range(5):
                first, name, search = rng.choice(guide.names), some_name(rng, self.schema, self.tree), some_search(rng, f"{seed} {at}")
                told = guide.ask(first, name, search)
                self.agrees(told, first, name, search)
                self.assertEqual(told, plain_ask(self.schema, self.tree, self.plan, first, name, search))
                self.assertEqual(guide.place_of(first, name), plain_place(self.schema, self.tree, self.plan, name))

    def test_views(self):
        # If the tree is a view, the guide tells what the view tells.
        self.schema = ruling_schema()
        for seed in range(20):
            rng = random.Random(f"guided views {seed}")
            tree = some_ruled_tree(f"guided views {seed}", self.schema, 8, 4)
            self.tree = view(self.schema, tree, somebody(rng, tree))
            self.plan = some_plan(rng, self.tree, 5)
            guide = self.guide()
            for _ in range(4):
                first, name, search = rng.choice(guide.names), some_name(rng, self.schema, self.tree), Search(0, rng.choice(SCOPES))
                self.agrees(guide.ask(first, name, search), first, name, search)

    def test_place_of(self):
        for first in "rst":
            told = [self.guide().place_of(first, name) for name in ((), self.ONE, self.TWO, self.ANN, self.BOB)]
            self.assertEqual(told, ["r", "r", "s", "r", "t"])
            told = [self.guide().place_of(first, (("cn", "none"), *name)) for name in ((), self.ONE, self.TWO, self.ANN, self.BOB)]
            self.assertEqual(told, ["r", "r", "s", "r", "t"])
            self.assertEqual(self.guide().place_of(first, (("cn", "x"),) * 15), "r")
            self.assertEqual(self.guide().place_of(first, (("cn", "x"), ("cn", "two"), ("cn", "ONE"))), "s")

    def test_wrong_arguments(self):
        guide = self.guide()
        self.refuses_each(guide.ask, ["r", (), Search(0)], [
            (0, UnknownName, never), (1, InvalidName, are_name_pairs), (2, InvalidOperation, is_some_question)])
        self.refuses_each(guide.place_of, ["r", ()], [(0, UnknownName, never), (1, InvalidName, are_name_pairs)])
        for value in wrong_values():
            self.assertIs(self.refuses(UnknownName, guide.ask, value, None, None).asked, value)
            self.assertIs(self.refuses(UnknownName, guide.place_of, value, None).asked, value)
        for search in (Search(1), Search(0, limit=5), Search(0, aliases="scope")):
            self.refuses(InvalidOperation, guide.ask, "r", (), search)
        self.refuses(InvalidName, guide.ask, "r", ["x"], Search(1))
        self.refuses(UnknownName, Guide({}).ask, "r", (), Search(0))

    def test_wrong_servers(self):
        servers = cut_tree(self.schema, self.tree, self.plan)
        self.refuses_each(Guide, [servers], [(0, InvalidOperation, is_empty_dict)])
        r, s, t = [servers[name] for name in "rst"]
        for value in ({"r": r}, {"s": s}, {"r": r, "s": s}, {"r": r, "t": t}, {"s": s, "t": t}, {"r": r, "s": s, "t": s}, {"r": r, "s": s, "x": t}, {"r": r, "s": s, "t": None},
                      {"r": r, "s": s, "t": t, 1: t}, {"r": r, "s": s, "t": t, "R": r}, [r, s, t], (("r", r),), r, {"r": r, "s": s, "t": "t"}, {"r": "r", "s": s, "t": t}, {None: r}):
            self.refuses(InvalidOperation, Guide, value)
        self.assertEqual(Guide({"t": t, "r": r, "s": s}).names, ("r", "s", "t"))
        # A server above that lacks, though no cut names it.
        servers = cut_tree(self.schema, self.tree, {0: "r", 2: "s", 20: "t"})
        self.refuses(InvalidOperation, Guide, {"t": servers["t"]})
        self.refuses(InvalidOperation, Guide, {"t": servers["t"], "s": servers["s"]})
        self.assertEqual(Guide(servers).names, ("r", "s", "t"))
        # A copy is kept.
        guide = Guide(servers)
        servers.clear()
        self.assertEqual(guide.names, ("r", "s", "t"))
        self.assertIsInstance(r, Server)
        self.cannot_iterate(guide)


class TraceTests(GuidedTests):
    """Traces [24.1]: whether a value is what a guide asks."""

    def is_it(self, value, told):
        """Tests whether a value is a trace."""
        self.assertIs(is_trace(self.schema, self.tree, self.plan, value), told, value)

    def test_traces(self):
        trace = self.guide().ask("t", self.TWO, Search(0, "tree"))[2]
        self.is_it(trace, True)
        self.assertGreater(len(trace), 3)
        for value in (trace[1:], trace[:2] + trace[3:], (trace[0], *trace), trace[:1] + trace[2:], trace[::-1], (*trace, trace[-1]), [*trace], trace[:-1]):
            # What is asked from a later question on can be a trace itself.
            self.is_it(value, value == trace[1:])
        for at, (server, name, scope) in enumerate(trace):
            others = [("x", name, scope), (server, name[1:], scope), (server, name, "one"), (server, name, "base"), (server, name), [server, name, scope],
                      (server, list(name), scope), (server, name, scope, scope), (server, name, "Tree"), (server, name, None), None, (name, server, scope),
                      (None, name, scope), (server, None, scope), (server, (("cn", "ONE"),), scope), (server, (("cn",),), scope)]
            for other in others:
                self.is_it((*trace[:at], other, *trace[at + 1:]), False)

    def test_names_in_traces(self):
        # The first name is told as it was asked, that of a cut in the texts of its way.
        name = (("cn", "ONE"),)
        trace = (("r", name, "tree"), ("s", self.TWO, "tree"), ("r", self.ANN, "tree"), ("t", self.BOB, "tree"))
        self.is_it(trace, True)
        self.is_it((("r", self.ONE, "tree"), *trace[1:]), True)
        self.is_it((*trace[:2], ("r", (("cn", "ann"), *self.TWO), "tree"), trace[3]), False)
        self.is_it((trace[0], ("s", (("cn", "TWO"), ("cn", "one")), "tree"), *trace[2:]), False)
        # A missing name has a trace, too.
        self.is_it((("r", (("cn", "x"),) * 20, "base"),), True)
        self.is_it((("s", (("cn", "x"),) * 20, "base"),), False)
        self.is_it((("s", (("cn", "x"),) * 20, "base"), ("r", (("cn", "x"),) * 20, "base")), True)

    def test_single_questions(self):
        self.is_it((("r", (), "one"),), True)
        self.is_it((("r", (), "base"),), True)
        self.is_it((("r", (), "tree"),), False)
        self.is_it((("s", self.ANN, "base"),), False)
        self.is_it((), False)

    def test_wrong_arguments(self):
        self.answers_all(is_trace, (self.schema, self.tree, self.plan))
        trace = (("r", (), "one"),)
        self.refuses_each(is_trace, [self.schema, self.tree, self.plan, trace], [
            (0, InvalidSchema, is_schema), (1, InvalidTree, is_empty_dict), (2, InvalidOperation, never)])
        for value in wrong_values():
            self.is_it(value, False)
            self.is_it((value,), False)
            for at in range(3):
                self.is_it((tuple([value if each == at else ("r", (), "one")[each] for each in range(3)]),), at == 1 and are_name_pairs(value))
        self.refuses(InvalidOperation, is_trace, self.schema, self.tree, {0: "r", 77: "s"}, trace)
