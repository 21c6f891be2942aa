"""Tests of bailiwick.far.holdings."""

import random

from bailiwick.ask.filters import value_at
from bailiwick.ask.search import SCOPES, Search, row_of
from bailiwick.base.kinds import form_of, is_fit
from bailiwick.errors import InvalidName, InvalidOperation, InvalidSchema, InvalidTree, UnknownNumber
from bailiwick.far import holdings
from bailiwick.far.holdings import Server, cut_tree, is_plan, root_of
from bailiwick.rules.schemas import Schema
from bailiwick.tree.trees import beneath, children, level, name_of, number_of, upward
from tests.makers import asking_schema, some_filters, some_tree
from tests.samples import Tests, entry, is_empty_dict, is_schema, never, sample_schema, sample_tree, wrong_values
from tests.test_links import is_one
from tests.test_trees import wide_tree


def is_empty_tuple(value):
    """Whether a wrong value is the name of the root all the same."""
    return isinstance(value, tuple) and value == ()


def are_name_pairs(value):
    """Whether a wrong value is a tuple of pairs of a word and a text all the same."""
    return is_empty_tuple(value) or (isinstance(value, tuple) and value == (("a", "b"),))


def is_some_question(value):
    """Whether a wrong value is a search of servers all the same."""
    return isinstance(value, Search)


def plain_root(tree, plan, number):
    """The root to whose holding an entry, or the root, belongs, told as the document tells it."""
    return next((each for each in [*upward(tree, number), 0] if each in plan), None)


def plain_held(tree, plan, root):
    """The numbers of the entries of a holding."""
    return [number for number in sorted(tree) if plain_root(tree, plan, number) == root]


def plain_cuts(tree, plan, root):
    """The cuts of a holding, by their numbers."""
    return {cut: plan[cut] for cut in sorted(plan) if cut not in (0, root) and plain_root(tree, plan, tree[cut][0]) == root}


def plain_above(tree, plan, name):
    """The server above another one."""
    tops = sorted([(len(upward(tree, root)), root) for root in plan if plan[root] == name])
    return None if tops[0][1] == 0 else plan[plain_root(tree, plan, tree[tops[0][1]][0])]


def plain_number(schema, tree, name):
    """The number that has a name of any length, or None."""
    return number_of(schema, tree, name) if len(name) <= 8 else None


def is_told_end(schema, tree, root, name):
    """Whether a root has a name that is the end of an asked one."""
    many = level(tree, root)
    return many <= len(name) and plain_number(schema, tree, name[len(name) - many:]) == root


def plain_answer(schema, tree, plan, server, name, search):
    """What a server answers, told as the document tells it."""
    roots = [root for root in plan if plan[root] == server and is_told_end(schema, tree, root, name)]
    if not roots:
        return ("refer", plain_above(tree, plan, server), name)
    root = max(roots, key=lambda each: level(tree, each))
    held, cuts = plain_held(tree, plan, root), plain_cuts(tree, plan, root)
    at = root
    for many in range(level(tree, root) + 1, len(name) + 1):
        found = plain_number(schema, tree, name[len(name) - many:])
        if found in cuts:
            return ("refer", plan[found], name)
        if found not in held:
            return ("missing", many - 1)
        at = found
    in_scope = {"base": [at], "one": children(tree, at), "beneath": beneath(tree, at), "tree": [at, *beneath(tree, at)]}[search.scope]
    rows = [row_of(schema, tree, each, search.types) for each in held
            if each in in_scope and value_at(schema, tree, search.where, each) == "true"]
    more = [(plan[cut], name_of(tree, cut), "base" if search.scope == "one" else "tree") for cut in cuts
            if cut in in_scope and cut != at]
    return ("found", tuple(rows), tuple(more))


def some_plan(rng, tree, most=20):
    """A plan for a tree."""
    names = [f"s{at}" for at in range(rng.randrange(1, most + 1))]
    roots = rng.sample(sorted(tree), rng.randrange(len(tree) + 1))
    plan = {root: rng.choice(names) for root in roots}
    plan[0] = rng.choice(names)
    return plan


def some_name(rng, schema, tree):
    """A name, mostly of an entry, perhaps written otherwise, and now and then of none."""
    number = rng.choice([0, *tree])
    name = []
    for word, text in name_of(tree, number):
        if rng.randrange(2) and schema.kind_of(word) == "text":
            text = f" {text.upper()}  " if len(text) < 90 else text.lower()
        name.append((word, text))
    if rng.randrange(4) == 0 and name:
        name[rng.randrange(len(name))] = rng.choice((("cn", "none"), ("nowhere", "x"), ("size", "x"), ("cn", "  ")))
    if rng.randrange(6) == 0:
        name = [rng.choice((("cn", "more"), ("tag", "a"))) for _ in range(rng.randrange(1, 4))] + name
    return tuple(name)


def some_search(rng, seed):
    """A search of servers."""
    where = rng.choice((("and", ()), ("and", ()), *some_filters(seed, 3)))
    return Search(0, rng.choice(SCOPES), where=where, types=rng.choice(((), (), ("cn",), ("size", "tag"))))


class HoldingTests(Tests):
    """Plans, holdings and servers [23.1, 23.2]."""

    def setUp(self):
        self.schema = sample_schema()
        self.tree = sample_tree()

    def agrees(self, schema, tree, plan):
        """Tests all that servers tell of themselves against what the document tells."""
        before = (repr(tree), repr(plan))
        servers = cut_tree(schema, tree, plan)
        self.assertEqual(list(servers), sorted(set(plan.values())))
        for name, server in servers.items():
            self.assertIsInstance(server, Server)
            roots = sorted([root for root in plan if plan[root] == name])
            self.assertEqual((server.name, server.roots), (name, tuple(roots)))
            self.assertEqual(server.above, plain_above(tree, plan, name))
            held = {number: tree[number] for number in sorted([each for root in roots for each in plain_held(tree, plan, root)])}
            self.assertEqual(list(server.entries().items()), list(held.items()))
            cuts = {cut: plan[cut] for cut in sorted([each for root in roots for each in plain_cuts(tree, plan, root)])}
            self.assertEqual(list(server.cuts().items()), list(cuts.items()))
            glimpses = {*cuts, *[each for root in roots for each in upward(tree, root)]} - {*held}
            told = server.glimpses()
            self.assertEqual(list(told), sorted(glimpses))
            for number, glimpse in told.items():
                self.assertEqual(glimpse[:3], tree[number][:3])
                self.assertEqual(glimpse[3], tuple([value for value in tree[number][3] if value[:2] == tree[number][1]]))
        for number in tree:
            root = root_of(schema, tree, plan, number)
            self.assertEqual(root, plain_root(tree, plan, number))
            self.assertEqual([name for name in servers if number in servers[name].entries()], [plan[root]])
        self.assertEqual((repr(tree), repr(plan)), before)
        return servers

    def test_constant(self):
        self.assertEqual(holdings.MAX_SERVERS, 20)

    def test_is_plan(self):
        for plan in ({0: "a"}, {0: "a", 1: "a"}, {1: "b", 0: "a"}, {0: "r", **{number: f"s{number}" for number in self.tree}}, {0: "a" * 12, 30: "b1"}):
            self.assertIs(is_plan(self.schema, self.tree, plan), True)
        for plan in ({}, {1: "a"}, {0: "a", 3: "b"}, {0: "a", 77: "b"}, {0: "A"}, {0: ""}, {0: "a" * 13}, {0: None}, {0: 1}, {0: "a", 1: ("b",)}, {0: "a", "1": "b"},
                     {0: "a", True: "b"}, {False: "a"}, {0: "a", None: "b"}, {0: "a", (1,): "b"}, {0: "a", -1: "b"}, [(0, "a")], ((0, "a"),), "a", None,
                     {0: "a", 10 ** 39: "b"}, {0: True}, {0: ["a"]}):
            self.assertIs(is_plan(self.schema, self.tree, plan), False, plan)
            self.refuses(InvalidOperation, cut_tree, self.schema, self.tree, plan)
            self.refuses(InvalidOperation, root_of, self.schema, self.tree, plan, 77)
        self.assertIs(is_plan(self.schema, {}, {0: "a"}), True)
        self.assertIs(is_plan(self.schema, {}, {0: "a", 1: "b"}), False)
        self.answers_all(is_plan, (self.schema, self.tree))

    def test_twenty_servers_and_one_more(self):
        tree = wide_tree(60)
        numbers = sorted(tree)
        plan = {0: "s0", **{number: f"s{at % 20}" for at, number in enumerate(numbers)}}
        self.assertIs(is_plan(self.schema, tree, plan), True)
        servers = self.agrees(self.schema, tree, plan)
        self.assertEqual(len(servers), 20)
        self.assertIs(is_plan(self.schema, tree, {**plan, numbers[0]: "s1"}), True)
        self.assertIs(is_plan(self.schema, tree, {**plan, numbers[0]: "more"}), False)
        self.refuses(InvalidOperation, cut_tree, self.schema, tree, {**plan, 0: "more"})

    def test_one_holding(self):
        servers = self.agrees(self.schema, self.tree, {0: "a"})
        self.assertEqual((servers["a"].above, servers["a"].cuts(), servers["a"].glimpses()), (None, {}, {}))
        self.assertEqual(servers["a"].entries(), self.tree)
        servers = self.agrees(self.schema, {}, {0: "a"})
        self.assertEqual((servers["a"].roots, servers["a"].entries()), ((0,), {}))

    def test_each_entry_its_own(self):
        plan = {0: "r", **{number: f"s{number}" for number in self.tree}}
        servers = self.agrees(self.schema, self.tree, plan)
        self.assertEqual([servers[f"s{number}"].above for number in self.tree], ["r", "s1", "r", "s2", "s10", "s2"])
        self.assertEqual(servers["r"].entries(), {})
        self.assertEqual(servers["s2"].cuts(), {10: "s10", 30: "s30"})
        self.assertEqual(sorted(servers["s2"].glimpses()), [1, 10, 30])
        self.agrees(self.schema, self.tree, {number: "a" for number in (0, *self.tree)})

    def test_several_holdings_of_one_server(self):
        servers = self.agrees(self.schema, self.tree, {0: "a", 2: "b", 10: "a", 20: "b"})
        self.assertEqual((servers["a"].roots, servers["b"].roots), ((0, 10), (2, 20)))
        self.assertEqual((servers["a"].above, servers["b"].above), (None, "a"))
        self.assertEqual((sorted(servers["a"].entries()), sorted(servers["b"].entries())), ([1, 5, 10], [2, 20, 30]))
        self.assertEqual((servers["a"].cuts(), servers["b"].cuts()), ({2: "b", 20: "b"}, {10: "a"}))
        self.assertEqual((sorted(servers["a"].glimpses()), sorted(servers["b"].glimpses())), ([2, 20], [1, 10]))
        # Cuts of one server itself.
        servers = self.agrees(self.schema, self.tree, {0: "a", 2: "a", 30: "b"})
        self.assertEqual((servers["a"].cuts(), sorted(servers["a"].glimpses())), ({2: "a", 30: "b"}, [30]))

    def test_the_server_above(self):
        # Of several roots the one with the fewest entries above it counts, of these the least.
        servers = self.agrees(self.schema, self.tree, {0: "r", 2: "x", 20: "a", 30: "a", 10: "y"})
        self.assertEqual(servers["a"].above, "x")
        tree = {1: entry(0, "cn", "a", ("unit",)), 2: entry(0, "cn", "b", ("unit",)), 3: entry(2, "cn", "c", ("unit",)),
                4: entry(1, "cn", "d", ("unit",)), 5: entry(3, "cn", "e", ("unit",))}
        servers = self.agrees(self.schema, tree, {0: "r", 1: "x", 2: "y", 3: "a", 4: "a", 5: "b"})
        self.assertEqual([servers[name].above for name in "abrxy"], ["y", "a", None, "r", "r"])
        servers = self.agrees(self.schema, tree, {0: "r", 1: "x", 2: "y", 4: "a", 5: "a"})
        self.assertEqual(servers["a"].above, "x")

    def test_root_of(self):
        plan = {0: "a", 2: "b", 10: "a"}
        self.assertEqual([root_of(self.schema, self.tree, plan, number) for number in (1, 2, 5, 10, 20, 30)], [0, 2, 0, 10, 10, 2])
        for number in (0, 77, True, "1", None):
            self.assertIs(self.refuses(UnknownNumber, root_of, self.schema, self.tree, plan, number).asked, number)

    def test_many_plans(self):
        schema = asking_schema()
        for seed in range(25):
            rng = random.Random(f"plans {seed}")
            tree = some_tree(f"plans {seed}", schema, rng.randrange(1, 20), 4)
            self.agrees(schema, tree, some_plan(rng, tree, 8))

    def test_wrong_arguments(self):
        right = [(0, InvalidSchema, is_schema), (1, InvalidTree, is_empty_dict)]
        plan = {0: "a", 2: "b"}
        self.refuses_each(is_plan, [self.schema, self.tree, plan], right)
        self.refuses_each(cut_tree, [self.schema, self.tree, plan], [*right, (2, InvalidOperation, never)])
        self.refuses_each(root_of, [self.schema, self.tree, plan, 1], [*right, (2, InvalidOperation, never), (3, UnknownNumber, is_one)])

    def test_nothing_gives_access(self):
        plan, tree = {0: "a", 2: "b"}, sample_tree()
        servers = cut_tree(self.schema, tree, plan)
        plan.clear()
        tree.clear()
        for server in servers.values():
            server.entries().clear()
            server.cuts().clear()
            server.glimpses().clear()
            self.cannot_iterate(server)
        self.assertEqual((sorted(servers["b"].entries()), sorted(servers["a"].cuts()), sorted(servers["b"].glimpses())), ([2, 10, 20, 30], [2], [1]))
        cut_tree(self.schema, self.tree, {0: "a"}).clear()


class AnswerTests(Tests):
    """What servers answer [23.3, 23.4]."""

    ONE = (("cn", "one"),)
    TWO = (("cn", "two"), ("cn", "one"))
    ANN = (("cn", "Ann"), *TWO)
    BOB = (("cn", "Bob  B"), *ANN)

    def setUp(self):
        self.schema = sample_schema()
        self.tree = sample_tree()
        self.plan = {0: "r", 2: "s", 20: "t"}
        self.servers = cut_tree(self.schema, self.tree, self.plan)

    def answers(self, server, name, search, told):
        """Tests what a server answers."""
        self.assertEqual(self.servers[server].ask(name, search), told)
        self.assertEqual(plain_answer(self.schema, self.tree, self.plan, server, name, search), told)

    def rows(self, *numbers, types=()):
        """The rows of entries."""
        return tuple([row_of(self.schema, self.tree, number, types) for number in numbers])

    def test_referrals(self):
        for scope in SCOPES:
            self.answers("s", (), Search(0, scope), ("refer", "r", ()))
            self.answers("t", (), Search(0, scope), ("refer", "s", ()))
            self.answers("t", self.TWO, Search(0, scope), ("refer", "s", self.TWO))
            self.answers("r", self.TWO, Search(0, scope), ("refer", "s", self.TWO))
            # With the asked name, as it was asked.
            name = (("cn", "none"), ("cn", " TWO "), ("cn", "ONE"))
            self.answers("r", name, Search(0, scope), ("refer", "s", name))
            self.answers("t", name, Search(0, scope), ("refer", "s", name))
            self.answers("r", self.BOB, Search(0, scope), ("refer", "s", self.BOB))
            self.answers("s", self.BOB, Search(0, scope), ("refer", "t", self.BOB))
        self.answers("s", (("cn", "x"),) * 9, Search(0), ("refer", "r", (("cn", "x"),) * 9))

    def test_missing(self):
        self.answers("r", (("cn", "none"),), Search(0), ("missing", 0))
        self.answers("r", (("cn", "none"), *self.ONE), Search(0), ("missing", 1))
        self.answers("r", (("cn", "none"), ("cn", "none")), Search(0), ("missing", 0))
        self.answers("s", (("cn", "none"), *self.TWO), Search(0), ("missing", 2))
        self.answers("s", (("cn", "none"), ("cn", "none"), *self.ANN), Search(0), ("missing", 3))
        self.answers("t", (("cn", "none"), *self.BOB), Search(0), ("missing", 4))
        # Types that are not known, texts that do not fit, and the right form under another type.
        for pair in (("nowhere", "one"), ("age", "one"), ("cn", " "), ("mail", "one"), ("nick", "one")):
            self.answers("r", (pair,), Search(0), ("missing", 0))
        self.answers("r", (("cn", "one"),) * 20, Search(0), ("missing", 1))
        # The naming counts, not other values.
        self.answers("s", (("mail", "A@x"), *self.TWO), Search(0), ("missing", 2))

    def test_found(self):
        more = (("s", self.TWO, "tree"),)
        self.answers("r", (), Search(0), ("found", self.rows(1, 5), more))
        self.answers("r", (), Search(0, "beneath"), ("found", self.rows(1, 5), more))
        self.answers("r", (), Search(0, "one"), ("found", self.rows(1, 5), ()))
        self.answers("r", (), Search(0, "base"), ("found", (), ()))
        self.answers("r", self.ONE, Search(0), ("found", self.rows(1), more))
        self.answers("r", self.ONE, Search(0, "beneath"), ("found", (), more))
        self.answers("r", self.ONE, Search(0, "one"), ("found", (), (("s", self.TWO, "base"),)))
        self.answers("r", self.ONE, Search(0, "base"), ("found", self.rows(1), ()))
        self.answers("r", (("cn", "Five"),), Search(0), ("found", self.rows(5), ()))
        self.answers("s", self.TWO, Search(0), ("found", self.rows(2, 10, 30), (("t", self.BOB, "tree"),)))
        self.answers("s", self.TWO, Search(0, "one"), ("found", self.rows(10, 30), ()))
        self.answers("s", self.ANN, Search(0, "one"), ("found", (), (("t", self.BOB, "base"),)))
        self.answers("s", (("cn", " ANN  "), ("cn", "Two"), ("cn", "oNe")), Search(0, "tree"), ("found", self.rows(10), (("t", self.BOB, "tree"),)))
        self.answers("t", self.BOB, Search(0, "base"), ("found", self.rows(20), ()))

    def test_filters_and_types(self):
        told = ("found", self.rows(30, types=("age", "pal")), (("t", self.BOB, "tree"),))
        self.answers("s", self.TWO, Search(0, where=("has", "pal"), types=("age", "pal")), told)
        # What lies above is known, too: `within` an entry of another server.
        for number, numbers in ((1, (2, 10, 30)), (2, (2, 10, 30)), (10, (10,)), (20, ()), (5, ()), (77, ())):
            self.answers("s", self.TWO, Search(0, where=("within", number)), ("found", self.rows(*numbers), (("t", self.BOB, "tree"),)))
        self.answers("t", self.BOB, Search(0, where=("within", 1)), ("found", self.rows(20), ()))
        # The cuts are told, whatever the filter.
        self.answers("r", (), Search(0, where=("or", ())), ("found", (), (("s", self.TWO, "tree"),)))

    def test_the_longest_name(self):
        self.plan = {0: "a", 2: "b", 10: "a", 20: "c"}
        self.servers = cut_tree(self.schema, self.tree, self.plan)
        self.answers("a", self.ANN, Search(0), ("found", self.rows(10), (("c", self.BOB, "tree"),)))
        self.answers("a", self.TWO, Search(0), ("refer", "b", self.TWO))
        self.answers("a", self.ONE, Search(0), ("found", self.rows(1), (("b", self.TWO, "tree"),)))
        self.answers("b", self.TWO, Search(0), ("found", self.rows(2, 30), (("a", self.ANN, "tree"),)))
        self.answers("b", self.BOB, Search(0), ("refer", "a", self.BOB))
        self.answers("c", self.BOB, Search(0), ("found", self.rows(20), ()))
        self.answers("c", self.ANN, Search(0), ("refer", "a", self.ANN))
        # A cut of the server itself.
        self.plan = {0: "a", 2: "a", 10: "a"}
        self.servers = cut_tree(self.schema, self.tree, self.plan)
        self.answers("a", (), Search(0), ("found", self.rows(1, 5), (("a", self.TWO, "tree"),)))
        self.answers("a", self.TWO, Search(0, "one"), ("found", self.rows(30), (("a", self.ANN, "base"),)))

    def test_cuts_right_beneath_the_root(self):
        self.plan = {0: "a", 5: "b", 1: "c"}
        self.servers = cut_tree(self.schema, self.tree, self.plan)
        five = (("cn", "five"),)
        self.answers("a", (), Search(0), ("found", (), (("c", self.ONE, "tree"), ("b", five, "tree"))))
        self.answers("a", (), Search(0, "one"), ("found", (), (("c", self.ONE, "base"), ("b", five, "base"))))
        self.answers("a", (), Search(0, "base"), ("found", (), ()))
        self.answers("a", (("cn", "x"),), Search(0), ("missing", 0))
        self.answers("b", self.ONE, Search(0), ("refer", "a", self.ONE))

    def test_many_plans(self):
        self.schema = asking_schema()
        words = {}
        for seed in range(60):
            rng = random.Random(f"answers {seed}")
            self.tree = some_tree(f"answers {seed}", self.schema, rng.randrange(1, 16), 4)
            self.plan = some_plan(rng, self.tree, 6)
            self.servers = cut_tree(self.schema, self.tree, self.plan)
            for at in range(6):
                server, name, search = rng.choice([*self.servers]), some_name(rng, self.schema, self.tree), some_search(rng, f"{seed} {at}")
                told = self.servers[server].ask(name, search)
                self.answers(server, name, search, told)
                words[told[0]] = words.get(told[0], 0) + 1
        self.assertTrue(min(words.values()) > 20 and len(words) == 3, words)

    def test_names_that_are_alike(self):
        self.assertTrue(is_fit("text", " Two") and form_of("text", " Two") == "two")
        for name in ((("cn", "TWO"), ("cn", "  one")), (("cn", " two "), ("cn", "ONE "))):
            self.answers("s", name, Search(0, "base"), ("found", self.rows(2), ()))

    def test_wrong_arguments(self):
        ask = self.servers["r"].ask
        self.refuses_each(ask, [(), Search(0)], [(0, InvalidName, are_name_pairs), (1, InvalidOperation, is_some_question)])
        for name in ([("cn", "a")], (["cn", "a"],), (("cn", ""),), (("Cn", "a"),), (("cn", "a", "b"),), ("cn", "a"), (("cn", "a"), None), None, "cn=a", (("cn", "x" * 101),)):
            self.refuses(InvalidName, ask, name, None)
        for search in (Search(1), Search(0, limit=5), Search(0, aliases="base"), Search(0, aliases="always"), Search(0, aliases="scope"), None, 0, Search):
            self.refuses(InvalidOperation, ask, (), search)
        for value in wrong_values():
            self.assertIs(is_plan(Schema((), ()), {}, value), False)
