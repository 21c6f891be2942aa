"""Tests of bailiwick.ask.pages."""

import functools
import random

from bailiwick.ask import pages
from bailiwick.ask.filters import value_at
from bailiwick.ask.pages import Kept, page, sorted_numbers
from bailiwick.ask.search import Search, find, row_of
from bailiwick.base.kinds import is_less
from bailiwick.errors import InvalidNumber, InvalidOperation, InvalidSchema, InvalidTree
from bailiwick.rules.schemas import Schema
from tests.makers import asking_schema, changed_tree, some_filters, some_tree
from tests.samples import Tests, entry, is_empty_dict, is_schema, never, sample_schema, sample_tree, wrong_values
from tests.test_filters import EVERYTHING, NOTHING
from tests.test_search import alias_tree, is_search, is_some_place
from tests.test_trees import wide_tree

EVERYONE = (1, 2, 5, 10, 20, 30)
UP = (("cn", "up"),)


def is_some_count(value):
    """Whether a wrong value is a count all the same."""
    return is_some_place(value) and value == 1


def wrong_keys():
    """Values that are no sort keys, some of them by one place alone."""
    return [
        *wrong_values(), ("cn", "up"), [("cn", "up")], (["cn", "up"],), (("cn",),), (("cn", "up", "up"),), (("cn", "Up"),),
        (("cn", ""),), (("cn", None),), (("cn", True),), (("Cn", "up"),), (("", "up"),), (("a" * 13, "up"),), ((1, "up"),),
        (("cn", "up"),) * 4, (("cn", "up"), "cn"), (("cn", "up"), ("cn", "left")), (("cn", ("up",)),), {("cn", "up"): 1},
    ]


def plain_order(schema, tree, numbers, keys):
    """Some numbers as sort keys order them, told as the document tells it: entry against entry."""
    def best(number, word, way):
        forms = [form for each, form, text in tree[number][3] if each in schema.reach(word)]
        kind = schema.kind_of(word)
        for form in forms:
            if not any(is_less(kind, *((other, form) if way == "up" else (form, other))) for other in forms):
                return form
        return None

    def compare(one, other):
        for word, way in keys:
            first, second = best(one, word, way), best(other, word, way)
            if first == second:
                continue
            if first is None or second is None:
                return 1 if first is None else -1
            return -1 if is_less(schema.kind_of(word), first, second) == (way == "up") else 1
        return one - other
    return tuple(sorted(numbers, key=functools.cmp_to_key(compare)))


class PageTests(Tests):
    """Pages [15.1, 0.19]."""

    def setUp(self):
        self.schema = sample_schema()
        self.tree = sample_tree()

    def page(self, *args, tree=None):
        """The word, the numbers and the cookie of a page; tests the rows."""
        tree = self.tree if tree is None else tree
        word, rows, cookie = page(self.schema, tree, *args)
        for row in rows:
            self.assertEqual(row, row_of(self.schema, tree, row[0], args[0].types))
        self.assertIsInstance(rows, tuple)
        return word, tuple([row[0] for row in rows]), cookie

    def test_constants(self):
        self.assertEqual((pages.MAX_COUNT, pages.MAX_KEYS), (60, 3))

    def test_pages(self):
        search = Search(0)
        self.assertEqual(self.page(search, 60), ("found", EVERYONE, None))
        self.assertEqual(self.page(search, 1), ("found", (1,), 1))
        self.assertEqual(self.page(search, 2, 0), ("found", (1, 2), 2))
        self.assertEqual(self.page(search, 2, 2), ("found", (5, 10), 10))
        # A last page that is full and one that is not.
        self.assertEqual(self.page(search, 2, 10), ("found", (20, 30), None))
        self.assertEqual(self.page(search, 3, 10), ("found", (20, 30), None))
        self.assertEqual(self.page(search, 1, 20), ("found", (30,), None))
        self.assertEqual(self.page(search, 6), ("found", EVERYONE, None))
        self.assertEqual(self.page(search, 5), ("found", EVERYONE[:5], 20))
        # Any cookie can be passed.
        self.assertEqual(self.page(search, 2, 3), ("found", (5, 10), 10))
        for cookie in (30, 31, 10 ** 12):
            self.assertEqual(self.page(search, 2, cookie), ("found", (), None))
        self.assertEqual(self.page(Search(0, types=("pet",), where=("class", "human")), 2), ("found", (10, 20), 20))
        self.assertEqual(self.page(Search(0, where=NOTHING), 2), ("found", (), None))

    def test_words(self):
        self.assertEqual(self.page(Search(77), 5), ("absent", (), None))
        self.assertEqual(self.page(Search(15, aliases="base"), 5, tree=alias_tree()), ("alias", (), None))
        self.assertEqual(self.page(Search(13, aliases="base"), 2, tree=alias_tree()), ("found", (20, 21), 21))

    def test_most_rows(self):
        tree = wide_tree(60)
        everyone = tuple(range(1, 61))
        self.assertEqual(self.page(Search(0), 60, tree=tree), ("found", everyone, None))
        self.assertEqual(self.page(Search(0), 59, tree=tree), ("found", everyone[:59], 59))
        self.assertEqual(self.page(Search(0), 59, 59, tree=tree), ("found", (60,), None))

    def test_a_row_of_pages_while_the_tree_changes(self):
        schema = asking_schema()
        for seed in range(30):
            rng = random.Random(f"pages {seed}")
            tree = some_tree(f"pages {seed}", schema, 20, 4)
            search = Search(0, where=rng.choice((EVERYTHING, EVERYTHING, *some_filters(seed, 2))))
            told, always, ever, cookie = [], None, set(), 0
            while cookie is not None:
                now = {row[0] for row in find(schema, tree, search)[1]}
                always = now if always is None else always & now
                ever |= now
                word, rows, cookie = page(schema, tree, search, rng.choice((1, 2, 5)), cookie)
                self.assertEqual(rows, tuple([row for row in find(schema, tree, search)[1] if row in rows]))
                told += [row[0] for row in rows]
                for at in range(2):
                    tree = changed_tree(f"pages {seed} {len(told)} {at}", schema, tree)
            self.assertEqual(told, sorted(set(told)))
            self.assertLessEqual(always, set(told))
            self.assertLessEqual(set(told), ever)

    def test_entries_that_come_and_go(self):
        tree = wide_tree(9)
        search = Search(0)
        self.assertEqual(self.page(search, 3, tree=tree), ("found", (1, 2, 3), 3))
        # What goes is told no more, what comes ahead of the cookie is passed over, what comes again is told.
        tree.update({4: entry(0, "cn", "again", ("unit",))})
        del tree[5], tree[1]
        self.assertEqual(self.page(search, 2, 3, tree=tree), ("found", (4, 6), 6))
        tree[5] = tree[1] = entry(0, "cn", "new", ("unit",))
        del tree[1]
        self.assertEqual(self.page(search, 2, 6, tree=tree), ("found", (7, 8), 8))
        del tree[9]
        self.assertEqual(self.page(search, 2, 8, tree=tree), ("found", (), None))

    def test_wrong_arguments(self):
        right = [
            (0, InvalidSchema, is_schema), (1, InvalidTree, is_empty_dict), (2, InvalidOperation, is_search),
            (3, InvalidNumber, is_some_count), (4, InvalidNumber, is_some_place)]
        self.refuses_each(page, [self.schema, self.tree, Search(0), 5, 0], right)
        for count in (0, 61, -1, True, False, None, "1", 10 ** 39):
            self.assertIs(self.refuses(InvalidNumber, page, self.schema, self.tree, Search(0), count, None).value, count)
        for cookie in (-1, 10 ** 12 + 1, 10 ** 39, True, False, None, "1"):
            self.assertIs(self.refuses(InvalidNumber, page, self.schema, self.tree, Search(0), 60, cookie).value, cookie)
            self.assertIs(self.refuses(InvalidNumber, page, self.schema, self.tree, Search(77), 1, cookie).value, cookie)
        for limit in (1, 60):
            self.refuses(InvalidOperation, page, self.schema, self.tree, Search(0, limit=limit), 0)
        self.refuses(InvalidTree, page, Schema((), ()), self.tree, None, 0)


class SortedTests(Tests):
    """Sorted rows [15.2]."""

    def setUp(self):
        self.schema = sample_schema()
        self.tree = sample_tree()

    def sorts(self, word, numbers, *keys, tree=None, search=None, schema=None):
        """Tests what is told of sort keys."""
        told = sorted_numbers(schema or self.schema, self.tree if tree is None else tree, search or Search(0), keys)
        self.assertEqual(told, (word, tuple(numbers)))

    def marks_tree(self):
        """Entries with several values, equal ones and none."""
        rows = {1: (5, 100), 2: (9,), 3: (), 4: (-10, 7), 5: (9, 5), 6: (), 7: (100,), 8: (-3,)}
        return {at: entry(0, "cn", f"n{at}", ("unit",), *[("mark", str(mark)) for mark in marks]) for at, marks in rows.items()}

    def test_one_key(self):
        self.sorts("found", [10, 20, 30, 5, 1, 2], ("cn", "up"))
        self.sorts("found", [2, 20, 1, 5, 30, 10], ("mark", "up"), ("cn", "down"))
        tree = self.marks_tree()
        # Numbers stand by their integers; of several values the least, or the greatest, counts; none stands last.
        self.sorts("found", [4, 8, 1, 5, 2, 7, 3, 6], ("mark", "up"), tree=tree)
        self.sorts("found", [1, 7, 2, 5, 4, 8, 3, 6], ("mark", "down"), tree=tree)
        texts = {at: entry(0, "cn", f"n{at}", ("human",), ("mail", text)) for at, text in enumerate(("9", "10", "b", "B", " "), 1)}
        self.sorts("found", [5, 2, 1, 4, 3], ("mail", "up"), tree=texts)
        self.sorts("found", [3, 4, 1, 2, 5], ("mail", "down"), tree=texts)

    def test_forms_decide(self):
        tree = {1: (0, ("cn", "b"), ("unit",), (("cn", "b", "B"),)), 2: entry(0, "cn", "a", ("unit",)),
                3: (2, ("cn", "a"), ("unit",), (("cn", "a", " A"),))}
        self.sorts("found", [2, 3, 1], ("cn", "up"), tree=tree)
        self.sorts("found", [1, 2, 3], ("cn", "down"), tree=tree)

    def test_reach(self):
        tree = {1: entry(0, "cn", "m", ("human",), ("nick", "a"), ("pet", "z")), 2: entry(0, "cn", "b", ("human",), ("nick", "y")),
                3: entry(0, "cn", "c", ("human",))}
        self.sorts("found", [1, 2, 3], ("cn", "up"), tree=tree)
        self.sorts("found", [1, 2, 3], ("cn", "down"), tree=tree)
        self.sorts("found", [1, 2, 3], ("nick", "up"), tree=tree)
        self.sorts("found", [1, 2, 3], ("pet", "up"), tree=tree)
        self.sorts("found", [2, 1, 3], ("pet", "up"), tree={**tree, 2: entry(0, "cn", "b", ("human",), ("pet", "y"))})
        # The types of the search do not matter here.
        self.sorts("found", [1, 2, 3], ("nick", "up"), tree=tree, search=Search(0, types=("age",)))

    def test_several_keys(self):
        tree = {at: entry(0, "cn", f"n{9 - at}", ("human",), *values) for at, values in {
            1: [("mark", "2"), ("mail", "b")], 2: [("mark", "1"), ("mail", "b")], 3: [("mark", "2"), ("mail", "a")],
            4: [("mail", "a")], 5: [("mark", "2")], 6: [("mark", "1"), ("mail", "b")], 7: []}.items()}
        self.sorts("found", [2, 6, 1, 3, 5, 4, 7], ("mark", "up"), tree=tree)
        self.sorts("found", [2, 6, 3, 1, 5, 4, 7], ("mark", "up"), ("mail", "up"), tree=tree)
        self.sorts("found", [2, 6, 1, 3, 5, 4, 7], ("mark", "up"), ("mail", "down"), tree=tree)
        self.sorts("found", [6, 2, 1, 3, 5, 4, 7], ("mark", "up"), ("mail", "down"), ("cn", "up"), tree=tree)
        self.sorts("found", [3, 4, 1, 2, 6, 5, 7], ("mail", "up"), ("mark", "down"), ("cn", "down"), tree=tree)
        self.sorts("found", [1, 2, 6, 3, 4, 5, 7], ("mail", "down"), ("mark", "down"), tree=tree)
        # The same type twice, and keys by which all are alike: the number decides, always ascending.
        self.sorts("found", [1, 3, 5, 2, 6, 4, 7], ("mark", "down"), ("mark", "up"), tree=tree)
        self.sorts("found", [1, 2, 3, 4, 5, 6, 7], ("age", "down"), ("code", "up"), tree=tree)

    def test_words(self):
        for word in ("none", "ok", "boss", "pal", "below", "to", "unit"):
            for keys in [((word, "up"),), (("cn", "up"), (word, "down")), (("mark", "up"), ("cn", "up"), (word, "up"))]:
                self.sorts("order", [], *keys)
                # This comes ahead of the word of the search.
                self.sorts("order", [], *keys, search=Search(77))
        self.sorts("absent", [], ("cn", "up"), search=Search(77))
        self.sorts("alias", [], ("cn", "up"), search=Search(15, aliases="base"), tree=alias_tree())
        self.sorts("found", [], ("cn", "up"), tree={})
        self.sorts("found", [10, 20, 30], ("cn", "up"), search=Search(0, where=("class", "human")))
        self.sorts("found", [1, 5, 20, 2, 10, 30], ("label", "up"), ("pet", "up"), ("mark", "down"),
                   tree={**self.tree, 5: entry(0, "cn", "five", ("unit",), ("mark", "7"), ("label", "x")),
                         1: entry(0, "cn", "one", ("unit",), ("label", "a"))})

    def test_many_trees(self):
        schema = asking_schema()
        words = ("cn", "nick", "tag", "sub", "size", "width", "age", "label", "rank")
        for seed in range(30):
            rng = random.Random(f"sorted {seed}")
            tree = some_tree(f"sorted {seed}", schema, 25)
            where = rng.choice((EVERYTHING, *some_filters(f"sorted {seed}", 1)))
            numbers = [number for number in tree if value_at(schema, tree, where, number) == "true"]
            for _ in range(6):
                keys = tuple([(rng.choice(words), rng.choice(("up", "down"))) for _ in range(rng.randrange(1, 4))])
                plain = plain_order(schema, tree, numbers, keys)
                self.sorts("found", plain, *keys, tree=tree, search=Search(0, where=where), schema=schema)

    def test_wrong_arguments(self):
        right = [
            (0, InvalidSchema, is_schema), (1, InvalidTree, is_empty_dict), (2, InvalidOperation, is_search),
            (3, InvalidOperation, never)]
        for call in (sorted_numbers, Kept):
            self.refuses_each(call, [self.schema, self.tree, Search(0), UP], right)
            for value in wrong_keys():
                self.refuses(InvalidOperation, call, self.schema, self.tree, Search(0), value)
            self.refuses(InvalidOperation, call, self.schema, self.tree, Search(0, limit=60), UP)
            self.refuses(InvalidTree, call, Schema((), ()), self.tree, None, UP)


class KeptTests(Tests):
    """Rows that are kept [15.3, 0.19]."""

    def setUp(self):
        self.schema = sample_schema()
        self.tree = sample_tree()

    def takes(self, kept, tree, count, told, left):
        """Tests what is taken off a row, and what is left of it."""
        rows = kept.next(tree, count)
        self.assertIsInstance(rows, tuple)
        self.assertEqual([row[0] for row in rows], told)
        self.assertEqual(kept.left, tuple(left))
        for row in rows:
            self.assertEqual(row, row_of(self.schema, tree, row[0], ()))

    def test_next(self):
        kept = Kept(self.schema, self.tree, Search(0), UP)
        self.assertEqual((kept.word, kept.left), ("found", (10, 20, 30, 5, 1, 2)))
        self.takes(kept, self.tree, 2, [10, 20], [30, 5, 1, 2])
        self.takes(kept, self.tree, 1, [30], [5, 1, 2])
        self.takes(kept, self.tree, 60, [5, 1, 2], [])
        self.takes(kept, self.tree, 60, [], [])
        kept = Kept(self.schema, self.tree, Search(0), UP)
        self.takes(kept, self.tree, 6, [10, 20, 30, 5, 1, 2], [])

    def test_changes_between(self):
        kept = Kept(self.schema, self.tree, Search(0), UP)
        tree = {**self.tree, 30: entry(2, "cn", "cy", ("worker",), ("age", "7"))}
        del tree[20]
        # What is gone is passed over; what is told last leaves what stands behind it.
        self.takes(kept, tree, 2, [10, 30], [5, 1, 2])
        tree[20] = self.tree[20]
        tree[1] = entry(0, "cn", "aaa", ("unit",))
        tree[7] = entry(0, "cn", "new", ("unit",))
        # Neither what was passed over nor what is new comes, and the first order holds.
        self.takes(kept, tree, 60, [5, 1, 2], [])
        kept = Kept(self.schema, self.tree, Search(0), UP)
        self.takes(kept, {5: self.tree[5]}, 1, [5], [1, 2])
        self.takes(kept, self.tree, 1, [1], [2])
        self.takes(kept, {5: self.tree[5]}, 1, [], [])
        kept = Kept(self.schema, self.tree, Search(0), UP)
        self.takes(kept, {5: self.tree[5]}, 2, [5], [])
        kept = Kept(self.schema, self.tree, Search(0), UP)
        self.takes(kept, {}, 1, [], [])

    def test_a_row_that_is_sorted_anew(self):
        # [0.23]: sorted anew at each call, an entry would be told twice and another one never; a kept row does neither.
        search, keys = Search(0), (("mark", "up"),)
        tree = {at: entry(0, "cn", f"n{at}", ("unit",), ("mark", str(at))) for at in (1, 2, 3)}
        kept = Kept(self.schema, tree, search, keys)
        anew = [sorted_numbers(self.schema, tree, search, keys)[1][0]]
        told = [row[0] for row in kept.next(tree, 1)]
        tree[1] = entry(0, "cn", "n1", ("unit",), ("mark", "9"))
        for at in (1, 2):
            anew.append(sorted_numbers(self.schema, tree, search, keys)[1][at])
            told += [row[0] for row in kept.next(tree, 1)]
        self.assertEqual((anew, told), ([1, 3, 1], [1, 2, 3]))

    def test_the_base_that_goes(self):
        kept = Kept(self.schema, self.tree, Search(2), UP)
        self.assertEqual(kept.left, (10, 20, 30, 2))
        self.takes(kept, self.tree, 1, [10], [20, 30, 2])
        self.takes(kept, {5: self.tree[5]}, 1, [], [])
        self.assertEqual(kept.word, "found")

    def test_filters_and_types(self):
        search = Search(0, where=("has", "mark"), types=("mark",))
        tree = {at: entry(0, "cn", f"n{at}", ("unit",), ("mark", str(-at))) for at in range(1, 5)}
        kept = Kept(self.schema, tree, search, (("mark", "up"),))
        self.assertEqual(kept.left, (4, 3, 2, 1))
        tree[3] = entry(0, "cn", "n3", ("unit",))
        rows = kept.next(tree, 2)
        self.assertEqual(rows, ((4, (("cn", "n4"),), ("unit",), (("mark", "-4", "-4"),)),
                                (2, (("cn", "n2"),), ("unit",), (("mark", "-2", "-2"),))))
        self.assertEqual(kept.left, (1,))

    def test_words(self):
        for search, keys, word in ((Search(77), UP, "absent"), (Search(0), (("ok", "up"),), "order"), (Search(77), (("none", "up"),), "order")):
            kept = Kept(self.schema, self.tree, search, keys)
            self.assertEqual((kept.word, kept.left, kept.next(self.tree, 1)), (word, (), ()))
        kept = Kept(self.schema, alias_tree(), Search(15, aliases="base"), UP)
        self.assertEqual((kept.word, kept.left, kept.next(alias_tree(), 60)), ("alias", (), ()))

    def test_many_rows(self):
        schema = asking_schema()
        for seed in range(30):
            rng = random.Random(f"kept {seed}")
            tree = some_tree(f"kept {seed}", schema, 20, 5)
            search = Search(0, where=rng.choice((EVERYTHING, EVERYTHING, *some_filters(f"kept {seed}", 2))))
            kept = Kept(schema, tree, search, ((rng.choice(("cn", "tag", "size")), rng.choice(("up", "down"))),))
            first = kept.left
            told, always = [], set(first)
            while kept.left != ():
                tree = changed_tree(f"kept {seed} {len(told)} {len(kept.left)}", schema, tree)
                now = {row[0]: row for row in find(schema, tree, search)[1]}
                always &= set(now)
                count, left = rng.choice((1, 2, 3)), kept.left
                rows = kept.next(tree, count)
                taken = left[:len(left) - len(kept.left)]
                self.assertEqual(left, taken + kept.left)
                self.assertEqual(rows, tuple([now[number] for number in taken if number in now]))
                self.assertTrue(len(rows) == count and rows[-1][0] == taken[-1] or kept.left == ())
                told += [row[0] for row in rows]
            self.assertEqual(len(told), len(set(told)))
            self.assertEqual(told, [number for number in first if number in told])
            self.assertLessEqual(always, set(told))

    def test_wrong_arguments(self):
        kept = Kept(self.schema, self.tree, Search(0), UP)
        kept.next(self.tree, 2)
        before = (kept.word, kept.left)
        self.refuses_each(kept.next, [self.tree, 5], [(0, InvalidTree, is_empty_dict), (1, InvalidNumber, is_some_count)])
        for count in (0, 61, -1, True, False, None):
            self.assertIs(self.refuses(InvalidNumber, kept.next, self.tree, count).value, count)
            self.assertIs(self.refuses(InvalidNumber, kept.next, {}, count).value, count)
        loose = {1: entry(0, "cn", "a", ("unit",), ("boss", "2"))}
        for tree in (loose, {True: self.tree[5]}, None):
            self.refuses(InvalidTree, kept.next, tree, 0)
        self.assertEqual((kept.word, kept.left), before)
        self.takes(kept, self.tree, 60, [30, 5, 1, 2], [])

    def test_other(self):
        kept = Kept(self.schema, self.tree, Search(0), UP)
        self.cannot_iterate(kept)
        self.equals_itself_alone(kept, kept, [Kept(self.schema, self.tree, Search(0), UP)])
        # The row is of the tree as it was when it was passed.
        tree = sample_tree()
        kept = Kept(self.schema, tree, Search(0), UP)
        tree.clear()
        self.takes(kept, self.tree, 60, [10, 20, 30, 5, 1, 2], [])
