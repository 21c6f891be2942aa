"""Tests of histories: what views, and what goes on with them, tell behind the units of several ones."""

import random

from bailiwick.ask.filters import numbers_true
from bailiwick.ask.indexes import Index
from bailiwick.ask.pages import Kept, page
from bailiwick.ask.search import Search, find, row_of
from bailiwick.ask.watches import Watch, messages_between, state_behind
from bailiwick.far.guides import Guide
from bailiwick.far.holdings import cut_tree
from bailiwick.place.views import done_by, view
from bailiwick.rules.judge import is_right
from bailiwick.text.lines import read_tree, tree_text
from bailiwick.tree.deeds import do_deed, move_back
from bailiwick.tree.trees import is_tree, name_of
from tests.rulers import grants, let_all, plain_view, rule, ruling_schema, some_deed, some_rule, somebody
from tests.samples import Tests, entry
from tests.test_rights import ANYONE, RIGHTS, SEE

ALL = [("may", right) for right in RIGHTS]


def first_tree():
    """A right tree with a rule that grants all to everybody."""
    return {
        1: entry(0, "cn", "one", ("unit",)), 2: entry(1, "cn", "two", ("unit",)), 3: entry(2, "cn", "ann", ("human",), ("boss", "5")),
        4: entry(3, "cn", "bob", ("human",), ("mail", "m4")), 5: entry(2, "cn", "cy", ("human",), ("pal", "4")), 6: entry(0, "cn", "six", ("unit",)),
        7: entry(2, "label", "s", ("share",), ("mail", "shared")), 8: entry(0, "label", "g", ("group",), ("chosen", "(mail=*)")),
        9: grants(0, "all", 1, *ALL, ANYONE),
    }


def added(number, made):
    """The unit that adds an entry as it stands in a tree."""
    above, naming, classes, values = made
    pairs = tuple([(word, text) for word, form, text in values])
    text = [text for word, form, text in values if (word, form) == naming][0]
    return (("add", number, above, (naming[0], text), classes, pairs),)


def some_unit(rng, schema, tree, number):
    """A unit that somebody can try: rules that come, change and go are among its deeds."""
    rules = [each for each in tree if "rule" in tree[each][2] and each != 9]
    way = rng.randrange(6)
    if way == 0:
        while True:
            made = some_rule(rng, tree, sorted(tree))
            if len([value for value in made[3] if value[0] == "rank"]) == 1:
                return added(number, made)
    if way == 1 and rules:
        return (("remove", rng.choice(rules)),)
    if way == 2 and rules:
        parts = (("set", "grants", (rng.choice(("yes", "no")),)), ("raise", "rank", rng.choice((-1, 1))))
        return (("change", rng.choice(rules), parts),)
    return tuple([some_deed(rng, schema, tree, number + at) for at in range(rng.randrange(1, 3))])


class ViewHistoryTests(Tests):
    """Histories of views [0.14, 0.16, 0.18, 0.19]."""

    def setUp(self):
        self.schema = ruling_schema()

    def test_everything_that_follows_a_view(self):
        for seed in range(12):
            rng = random.Random(f"histories {seed}")
            tree, askers = first_tree(), (0, None, 3, 5)
            watches = {who: Watch(self.schema, view(self.schema, tree, who), Search(rng.choice((0, 2)))) for who in askers}
            indexes = {who: Index(self.schema, view(self.schema, tree, who)) for who in askers}
            states = {who: watches[who].state() for who in askers}
            asked, done = ("and", (("has", "mail"), ("not", ("class", "share")))), 0
            for at in range(14):
                who = rng.choice((0, 0, somebody(rng, tree)))
                told = done_by(self.schema, tree, who, some_unit(rng, self.schema, tree, 110 + 5 * at))
                if told[0] == "fallen":
                    continue
                before, tree, done = tree, told[1], done + 1
                self.assertTrue(is_right(self.schema, tree))
                for each in askers:
                    elder = view(self.schema, before, each if each in (0, None) or each in before else None)
                    now = view(self.schema, tree, each if each in (0, None) or each in tree else None)
                    self.assertEqual(now, plain_view(self.schema, tree, each if each in (0, None) or each in tree else None))
                    messages = watches[each].follow(now)
                    # A unit that leaves a view equal makes no message there.
                    if elder == now:
                        self.assertEqual(messages, ())
                    states[each] = state_behind(states[each], messages)
                    word, rows, _ = find(self.schema, now, watches[each].search)
                    self.assertEqual((watches[each].word, states[each]), (word, {row[0]: row for row in rows}))
                    self.assertEqual(set(indexes[each].follow(now)), {number for number in {*elder, *now} if elder.get(number) != now.get(number)})
                    self.assertEqual(indexes[each].sets(asked)[0], numbers_true(self.schema, now, asked))
            self.assertGreater(done, 3)

    def test_equal_views_answer_alike(self):
        # [0.16]: what is hidden tells nothing, whatever it is.
        hide = rule(0, "x", ("rank", 5), SEE, ("what", "all"), ("without", 1), ("of", "unit"), ANYONE)
        one = {**first_tree(), 50: hide}
        other = {**one, 6: entry(0, "cn", "other", ("unit",), ("mail", "q"), ("mark", "3")), 60: entry(6, "cn", "lower", ("unit",))}
        self.assertNotEqual(one, other)
        for who in (None, 3, 5):
            self.assertEqual(view(self.schema, one, who), view(self.schema, other, who))
            self.assertNotIn(6, view(self.schema, one, who))
        self.assertNotEqual(view(self.schema, one, 0), view(self.schema, other, 0))
        watch = Watch(self.schema, view(self.schema, one, 3), Search(0))
        self.assertEqual(watch.follow(view(self.schema, other, 3)), ())
        self.assertEqual(watch.told, 0)

    def test_rights_groups_areas_and_shares_make_messages(self):
        tree = first_tree()
        tree[50] = rule(0, "x", ("rank", 5), SEE, ("what", "entry"), ("whom", 8), ("of", "human"))
        watch = Watch(self.schema, view(self.schema, tree, 6), Search(1, where=("class", "human")))
        self.assertEqual(sorted(watch.state()), [3, 4, 5])

        def follow(unit):
            nonlocal tree
            word, tree = done_by(self.schema, tree, 0, unit)
            self.assertEqual(word, "done")
            return [(message[0], message[1]) for message in watch.follow(view(self.schema, tree, 6))]

        # 6 becomes a member of the group by its mail, and no longer sees people.
        self.assertEqual(follow((("change", 6, (("put", "mail", "m"),)),)), [("out", 3), ("out", 4), ("out", 5)])
        self.assertEqual(watch.word, "found")
        # The area of the rule shrinks.
        self.assertEqual(follow((("change", 50, (("put", "without", "3"),)),)), [("in", 3), ("in", 4)])
        self.assertEqual(follow((("change", 6, (("drop", "mail", "m"),)),)), [("now", 3), ("in", 5)])
        # A shared value that changes.
        self.assertEqual(follow((("change", 7, (("put", "mail", "two"),)),)), [("now", 3), ("now", 4), ("now", 5)])
        self.assertEqual(follow((("remove", 7),)), [("now", 3), ("now", 4), ("now", 5)])
        # A type that is hidden, and a link whose end is.
        self.assertEqual(follow(added(51, rule(0, "y", ("rank", 5), SEE, ("what", "mail"), ANYONE))), [("now", 4)])
        self.assertEqual(follow(added(52, rule(3, "z", ("rank", 5), SEE, ("what", "entry"), ("least", 1), ANYONE))), [("out", 4), ("now", 5)])
        # The base that is hidden, and there again.
        self.assertEqual(follow(added(53, rule(1, "w", ("rank", 5), SEE, ("what", "entry"), ("most", 0), ANYONE))), [("out", 3), ("out", 5)])
        self.assertEqual((watch.word, watch.state()), ("absent", {}))
        self.assertEqual(follow((("remove", 53),)), [("in", 3), ("in", 5)])

    def test_pages_of_views(self):
        # [0.19]: an entry that is seen and found at all calls is told exactly once, no entry twice.
        for seed in range(12):
            rng = random.Random(f"pages of views {seed}")
            tree, who = first_tree(), rng.choice((None, 3, 5))
            search = Search(0)
            now = view(self.schema, tree, who)
            kept = Kept(self.schema, now, search, (("cn", "down"),))
            row, told, kept_told = kept.left, [], []
            always = kept_always = set(now)
            cookie = 0
            for at in range(30):
                if cookie is not None:
                    always = always & set(now)
                    word, rows, cookie = page(self.schema, now, search, 2, cookie)
                    told += [each[0] for each in rows]
                    self.assertTrue(all(each == row_of(self.schema, now, each[0], ()) for each in rows))
                if kept.left:
                    kept_always = kept_always & set(now)
                    kept_told += [each[0] for each in kept.next(now, 2)]
                unit = some_unit(rng, self.schema, tree, 110 + 5 * at)
                behind = done_by(self.schema, tree, rng.choice((0, somebody(rng, tree))), unit)
                tree = behind[1] if behind[0] == "done" and (who is None or who in behind[1]) else tree
                now = view(self.schema, tree, who)
            self.assertIsNone(cookie)
            self.assertEqual(len(told), len(set(told)))
            self.assertEqual(told, sorted(told))
            self.assertLessEqual(always, set(told))
            self.assertEqual(len(kept_told), len(set(kept_told)))
            self.assertEqual(kept_told, [number for number in row if number in kept_told])
            self.assertLessEqual(kept_always, set(kept_told))

    def test_moves(self):
        # [0.18]: a move carries all along, links too, and the move back makes the tree that was there.
        tree = {**first_tree(), 50: rule(2, "x", ("rank", 5), SEE, ("what", "entry"), ("whom", 5), ("least", 2))}
        for deed in (("move", 3, 6, ("cn", "anna"), False), ("move", 2, 6, ("mail", "m"), True), ("move", 4, 2, ("cn", "BOB"), False)):
            back = move_back(self.schema, tree, deed)
            word, moved = do_deed(self.schema, tree, deed)
            self.assertEqual(word, "done")
            for who in (0, None, 3, 5):
                now = view(self.schema, moved, who)
                self.assertTrue(is_tree(self.schema, now))
                self.assertEqual(now, plain_view(self.schema, moved, who))
            self.assertEqual(do_deed(self.schema, moved, back), ("done", tree))

    def test_views_in_lines_and_on_servers(self):
        for seed in range(8):
            rng = random.Random(f"views in lines {seed}")
            tree = first_tree()
            for at in range(10):
                told = done_by(self.schema, tree, 0, some_unit(rng, self.schema, tree, 110 + 5 * at))
                tree = told[1] if told[0] == "done" else tree
            for who in (0, None, rng.choice(sorted(tree))):
                now = view(self.schema, tree, who)
                self.assertEqual(read_tree(self.schema, tree_text(self.schema, now)), now)
                plan = {0: "a", **{number: rng.choice("abc") for number in now if rng.randrange(2)}}
                guide = Guide(cut_tree(self.schema, now, plan))
                for number in now:
                    word, rows, more = find(self.schema, now, Search(number))
                    self.assertEqual(guide.ask(rng.choice(guide.names), name_of(now, number), Search(0))[:2], (word, rows))

    def test_two_watches_of_two_views(self):
        tree = first_tree()
        tree.update(let_all(51, 0, "more", 2, ("who", "known")))
        one, other = [Watch(self.schema, view(self.schema, tree, who), Search(0)) for who in (None, 3)]
        self.assertEqual(messages_between(one.state(), other.state()), ())
        word, tree = done_by(self.schema, tree, 0, (("change", 9, (("drop", "may", "see"),)),))
        self.assertEqual(sorted(message[1] for message in one.follow(view(self.schema, tree, None))), sorted(tree))
        self.assertEqual([message[:2] for message in other.follow(view(self.schema, tree, 3))], [("now", 9)])
