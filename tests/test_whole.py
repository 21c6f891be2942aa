"""Tests of the whole: histories over several modules."""

import random

from bailiwick.ask.alike import normal
from bailiwick.ask.filters import numbers_true, value_at
from bailiwick.ask.indexes import Index
from bailiwick.ask.pages import Kept, page
from bailiwick.ask.search import Search, find
from bailiwick.ask.watches import Watch, state_behind
from bailiwick.copy.copies import Copy
from bailiwick.copy.rows import Row
from bailiwick.far.guides import Guide
from bailiwick.far.holdings import cut_tree
from bailiwick.many.letters import fold
from bailiwick.many.writers import Writer
from bailiwick.place.views import view
from bailiwick.rules.judge import is_right
from bailiwick.text.lines import read_tree, read_units, tree_text, units_text
from bailiwick.text.shell import Shell
from bailiwick.tree.directory import Directory
from bailiwick.tree.trees import is_tree, name_of
from tests.makers import some_filters
from tests.rulers import rule, ruling_schema, somebody
from tests.samples import Tests, entry, sample_schema, sample_tree
from tests.test_histories import first_tree, some_unit
from tests.test_rights import ANYONE, SEE
from tests.test_units import add

NAMES = ("ann", "bob")


class WriterHistoryTests(Tests):
    """What goes on beside a writer whose past is woven anew [0.21, 0.22, 0.19]."""

    def setUp(self):
        self.schema = ruling_schema()

    def some_history(self, rng, writers, many):
        """Lets writers make units and hear one another, and yields the writer after each step."""
        letters = []
        for _ in range(many):
            writer = rng.choice(writers)
            if rng.randrange(5) < 3 or not letters:
                move = (("move", rng.choice((2, 3, 4, 5)), rng.choice((1, 2, 3, 6)), ("cn", f"n{rng.randrange(3)}"), True),)
                unit = rng.choice((move, some_unit(rng, self.schema, writer.tree, writer.free_number())))
                told = writer.make(rng.choice((0, 0, somebody(rng, writer.tree))), unit)
                letters += [told] if told[0] == "deed" else []
            else:
                writer.hear(rng.choice(letters))
            yield writer

    def test_copies_of_a_writer(self):
        for seed in range(8):
            rng = random.Random(f"copies of writers {seed}")
            writers = [Writer(name, NAMES, self.schema, first_tree()) for name in NAMES]
            rows = {writer.name: Row(writer.name, writer.tree) for writer in writers}
            copies = {writer.name: Copy() for writer in writers}
            trees = {writer.name: [{}, writer.tree] for writer in writers}
            for writer in self.some_history(rng, writers, 40):
                row, copy = rows[writer.name], copies[writer.name]
                row.tell(writer.tree)
                trees[writer.name].append(writer.tree)
                if rng.randrange(6) == 0:
                    row.cut(rng.randrange(row.first, row.place + 1))
                messages = row.messages(copy.cookie)
                for message in messages[:rng.randrange(len(messages) + 1)]:
                    copy.hear(message)
                    self.assertIn(copy.entries(), trees[writer.name])
            for writer in writers:
                copies[writer.name].catch_up(rows[writer.name])
                self.assertEqual(copies[writer.name].entries(), writer.tree)
            # One copy can catch up with the row of another writer.
            other = copies["ann"]
            other.catch_up(rows["bob"])
            self.assertEqual((other.entries(), other.cookie), (writers[1].tree, rows["bob"].cookie))

    def test_what_follows_a_writer(self):
        anew = 0
        for seed in range(6):
            rng = random.Random(f"beside writers {seed}")
            writers = [Writer(name, NAMES, self.schema, first_tree()) for name in NAMES]
            ann = writers[0]
            search, asked = Search(2, where=rng.choice((("and", ()), ("has", "mail")))), ("or", (("has", "boss"), ("not", ("is", "cn", "n1"))))
            index, watch = Index(self.schema, ann.tree), Watch(self.schema, ann.tree, search)
            kept = Kept(self.schema, ann.tree, Search(0), (("cn", "up"),))
            state, order, told, always = watch.state(), kept.left, [], set(ann.tree)
            pages, cookie, page_always = [], 0, set(ann.tree)
            for at, writer in enumerate(self.some_history(rng, writers, 40)):
                stamps, tree = ann.settled, ann.tree
                index.follow(tree)
                self.assertEqual(index.sets(asked)[0], numbers_true(self.schema, tree, asked))
                state = state_behind(state, watch.follow(tree))
                word, rows, _ = find(self.schema, tree, search)
                self.assertEqual((watch.word, state), (word, {row[0]: row for row in rows}))
                if kept.left and at % 3 == 0:
                    always &= set(tree)
                    told += [row[0] for row in kept.next(tree, 2)]
                if cookie is not None and at % 4 == 0:
                    page_always &= set(tree)
                    _, rows, cookie = page(self.schema, tree, Search(0), 2, cookie)
                    pages += [row[0] for row in rows]
                self.assertEqual(stamps, tuple(sorted(stamps)))
                anew += any(fate[0] == "fallen" for fate in ann.fates.values())
            if not kept.left:
                self.assertEqual(told, [number for number in order if number in told])
                self.assertLessEqual(always, set(told))
            if cookie is None:
                self.assertEqual(pages, sorted(set(pages)))
                self.assertLessEqual(page_always, set(pages))
        self.assertGreater(anew, 0)

    def test_views_beside_a_writer(self):
        # A rule that comes late hides what was seen, and messages tell it.
        ann, bob = [Writer(name, NAMES, self.schema, first_tree()) for name in NAMES]
        watch = Watch(self.schema, view(self.schema, ann.tree, 3), Search(0, where=("class", "human")))
        bar = rule(0, "x", ("rank", 5), SEE, ("what", "entry"), ("of", "human"), ("whom", 3))
        pairs = tuple([(word, text) for word, form, text in bar[3]])
        late = bob.make(0, (("add", bob.free_number(), 0, ("label", "x"), ("rule",), pairs),))
        ann.make(3, (("change", 4, (("put", "mark", "1"),)),))
        self.assertEqual([message[:2] for message in watch.follow(view(self.schema, ann.tree, 3))], [("now", 4)])
        # Both were made at the same count; the one of ann has the lesser stamp and stands.
        self.assertEqual(ann.hear(late), (((1, "bob"), None, ("stands",)),))
        self.assertEqual([message[:2] for message in watch.follow(view(self.schema, ann.tree, 3))], [("out", 3), ("out", 4), ("out", 5)])
        self.assertEqual(ann.make(3, (("change", 4, (("put", "mark", "2"),)),)), ("fallen", 0, "absent"))
        made = bob.make(0, (("remove", 6),))
        self.assertEqual(ann.hear(made), (((2, "bob"), None, ("stands",)),))
        self.assertEqual(watch.follow(view(self.schema, ann.tree, 3)), ())

    def test_a_move_that_falls_late(self):
        # Behind the new past an index, a guide and lines tell what the tree tells.
        tree = sample_tree()
        schema = sample_schema()
        ann, bob = [Writer(name, NAMES, schema, tree) for name in NAMES]
        one = ann.make(0, (("move", 2, 5, ("cn", "two"), True),))
        two = bob.make(0, (("move", 5, 2, ("cn", "five"), True),))
        bob.make(0, (("change", 5, (("put", "mark", "1"),)),))
        index = Index(schema, bob.tree)
        self.assertEqual(bob.hear(one), (((1, "ann"), None, ("stands",)), ((1, "bob"), ("stands",), ("fallen", 0, "ring"))))
        self.assertEqual(index.follow(bob.tree), (2, 5))
        self.assertEqual(index.sets(("within", 5))[0], (2, 5, 10, 20, 30))
        self.assertEqual(name_of(bob.tree, 2), (("cn", "two"), ("cn", "five")))
        guide = Guide(cut_tree(schema, bob.tree, {0: "r", 5: "s", 10: "t"}))
        self.assertEqual(guide.ask("t", name_of(bob.tree, 20), Search(0, "base"))[1], find(schema, bob.tree, Search(20, "base"))[1])
        self.assertEqual(read_tree(schema, tree_text(schema, bob.tree)), bob.tree)
        self.assertEqual(ann.hear(two), (((1, "bob"), None, ("fallen", 0, "ring")),))

    def test_letters_in_lines(self):
        # Units that are told in lines make the same fold.
        for seed in range(5):
            rng = random.Random(f"letters in lines {seed}")
            writers = [Writer(name, NAMES, self.schema, first_tree()) for name in NAMES]
            for _ in self.some_history(rng, writers, 20):
                pass
            letters = [letter for letter in writers[0].letters if letter[0] == "deed"]
            units = read_units(units_text(tuple([letter[5] for letter in letters])))
            told = tuple([(*letter[:5], unit) for letter, unit in zip(letters, units)])
            self.assertEqual(fold(self.schema, first_tree(), told), (writers[0].tree, writers[0].fates))


class AgreementTests(Tests):
    """What agrees with what, over all ways of telling [0.16, 0.17, 0.20]."""

    def test_filters_in_all_ways(self):
        # At every entry a filter, its normal form and its indexes agree, on views too.
        schema = ruling_schema()
        for seed in range(6):
            rng = random.Random(f"agreement {seed}")
            writer = Writer("ann", ("ann",), schema, first_tree())
            for _ in range(12):
                writer.make(0, some_unit(rng, schema, writer.tree, writer.free_number()))
            for who in (0, None, rng.choice(sorted(writer.tree))):
                now = view(schema, writer.tree, who)
                index = Index(schema, now)
                guide = Guide(cut_tree(schema, now, {0: "a", **{number: rng.choice("abc") for number in now if rng.randrange(2)}}))
                for asked in some_filters(f"agreement {seed}", 12):
                    true, false = index.sets(asked)
                    values = {number: value_at(schema, now, asked, number) for number in now}
                    self.assertEqual(values, {number: value_at(schema, now, normal(asked), number) for number in now})
                    self.assertEqual(true, tuple([number for number in now if values[number] == "true"]))
                    self.assertEqual(false, tuple([number for number in now if values[number] == "false"]))
                    told = guide.ask(rng.choice(guide.names), (), Search(0, where=asked))
                    self.assertEqual(tuple([row[0] for row in told[1]]), true)

    def test_what_is_not_so(self):
        # [0.23]: of a filter and its opposite none need be true; `not (x >= 3)` is not `x <= 2`.
        schema, tree = sample_schema(), sample_tree()
        self.assertEqual([value_at(schema, tree, asked, 2) for asked in (("has", "age"), ("not", ("has", "age")))], ["unknown", "unknown"])
        tree[2] = entry(1, "cn", "two", ("unit",), ("mark", "2"), ("mark", "5"))
        self.assertEqual([value_at(schema, tree, asked, 2) for asked in (("not", ("from", "mark", "3")), ("to", "mark", "2"))], ["false", "true"])
        # A deed that stands when its writer makes it does not stand for ever.
        ann, bob = [Writer(name, NAMES, schema, sample_tree()) for name in NAMES]
        one, two = ann.make(0, (("remove", 5),)), bob.make(0, (add(7, 5, "x"),))
        self.assertEqual((bob.fates, bob.hear(one)[1:]), ({(1, "bob"): ("stands",)}, (((1, "bob"), ("stands",), ("fallen", 0, "unknown")),)))
        self.assertEqual(ann.hear(two), (((1, "bob"), None, ("fallen", 0, "unknown")),))

    def test_two_trees_with_equal_views_answer_alike(self):
        # [0.16]: shells of two directories with equal views tell the same, but for what refusals can tell.
        schema = ruling_schema()
        hide = rule(6, "x", ("rank", 5), SEE, ("what", "all"), ANYONE)
        one = {**first_tree(), 50: hide}
        other = {**one, 60: entry(6, "cn", "lower", ("unit",), ("mail", "m")), 6: entry(0, "cn", "else", ("unit",), ("mark", "3"))}
        shells = [Shell(Directory(schema, tree)) for tree in (one, other)]
        lines = ["as 3", "name 6", "number cn=six", "number cn=else", "number cn=lower,cn=else", "show 3", "show 60", "find tree 0 (cn=*)", "find tree 6 (cn=*)", "find tree 0 (mail=*)", "members 8",
                 "can see 6", "can add 0", "remove 60", "put 3 boss=60", "put 3 boss=6", "move 3 6 keep cn=x", "add 70 6 unit cn=x", "put 3 mail=x", "show 3", "undo", "as nobody", "find one 0 (:unit)"]
        for line in lines:
            told = [shell(line) for shell in shells]
            self.assertEqual(told[0], told[1], line)
        self.assertEqual(view(schema, one, 3), view(schema, other, 3))

    def test_a_right_tree_behind_everything(self):
        # Directories, writers and shells never have a tree that is not right.
        schema = ruling_schema()
        for seed in range(4):
            rng = random.Random(f"right {seed}")
            directory = Directory(schema, first_tree())
            shell = Shell(directory)
            for at in range(40):
                number, above = rng.choice(sorted(directory.tree)), rng.choice((0, *directory.tree))
                line = rng.choice((f"remove {number}", f"move {number} {above} drop cn=n{at % 4}", f"add {100 + at} {above} {rng.choice(('unit', 'human', 'group'))} cn=n{at % 5}",
                                   f"put {number} boss={above}", f"put {number} code=c", "undo", "redo", f"as {above}", "as 0", f"raise {number} rank 1", f"clear {number} mail"))
                shell(line)
                self.assertTrue(is_right(schema, directory.tree), line)
                self.assertTrue(is_tree(schema, view(schema, directory.tree, shell.who)))
