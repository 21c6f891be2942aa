"""Tests of bailiwick.copy.copies."""

import random

from bailiwick.copy.copies import Copy
from bailiwick.copy.rows import Row
from bailiwick.errors import InvalidOperation, Refused
from tests.makers import asking_schema, changed_tree, some_tree
from tests.samples import Tests, wrong_values
from tests.test_rows import ONE, OTHER, TWO, many_entries
from tests.test_trees import wrong_entries


def state_of(copy):
    """All that a copy tells."""
    return (copy.entries(), copy.cookie, copy.is_open)


class CopyTests(Tests):
    """Copies [25.4, 25.5, 25.6, 0.21]."""

    def setUp(self):
        self.copy = Copy()

    def hears(self, *messages):
        """Hears messages, each of which can stand."""
        for message in messages:
            self.assertIsNone(self.copy.hear(message))

    def refuses_messages(self, *messages):
        """Tests that messages cannot stand now, and change nothing."""
        for message in messages:
            before = state_of(self.copy)
            self.assertEqual(self.refuses(Refused, self.copy.hear, message).reason, message[0])
            self.assertEqual(state_of(self.copy), before)

    def is_at(self, entries, cookie, is_open):
        """Tests what the copy tells."""
        self.assertEqual(state_of(self.copy), (entries, cookie, is_open))
        self.assertEqual(list(self.copy.entries()), sorted(entries))

    def test_example(self):
        row, copy = Row("r"), Copy()
        told = [row.tell({1: ONE}), copy.catch_up(row), row.tell({1: ONE, 2: TWO}), row.messages(copy.cookie)[0], row.cut(2)]
        self.assertEqual(told, [1, 3, 2, ("changes", "r", 1), None])

    def test_first(self):
        self.is_at({}, None, False)
        self.refuses_messages(("changes", "r", 0), ("step", {}), ("step", {1: ONE}), ("put", 1, ONE), ("there", 1), ("done", ("r", 0)))

    def test_all(self):
        self.hears(("all", "r"))
        self.is_at({}, None, True)
        self.refuses_messages(("step", {}), ("step", {1: ONE}), ("there", 1), ("done", ("q", 5)), ("changes", "r", 0))
        self.hears(("put", 9, ONE))
        self.refuses_messages(("put", 9, ONE), ("put", 9, TWO), ("there", 9))
        self.hears(("put", 2, TWO))
        self.is_at({}, None, True)
        self.hears(("done", ("r", 7)))
        self.is_at({2: TWO, 9: ONE}, ("r", 7), False)
        self.refuses_messages(("put", 1, ONE), ("there", 2), ("step", {1: ONE}), ("done", ("r", 7)))
        # What was put aside in one catching up is not there in the next.
        self.hears(("all", "q"))
        self.refuses_messages(("there", 2))
        self.hears(("put", 9, OTHER))
        self.is_at({2: TWO, 9: ONE}, ("r", 7), True)
        self.hears(("done", ("q", 0)))
        self.is_at({9: OTHER}, ("q", 0), False)

    def test_there(self):
        self.hears(("all", "r"), ("put", 1, ONE), ("put", 2, TWO), ("put", 3, ONE), ("done", ("r", 1)))
        self.hears(("all", "r"))
        # What the copy lacks cannot be there.
        self.refuses_messages(("there", 4), ("there", 10 ** 12))
        self.hears(("there", 3), ("put", 4, OTHER), ("put", 2, OTHER))
        self.refuses_messages(("there", 3), ("put", 3, ONE), ("there", 2), ("there", 4), ("put", 4, OTHER))
        self.is_at({1: ONE, 2: TWO, 3: ONE}, ("r", 1), True)
        self.hears(("done", ("r", 9)))
        self.is_at({2: OTHER, 3: ONE, 4: OTHER}, ("r", 9), False)
        # Of another identity than that of the copy's cookie nothing is there.
        self.hears(("all", "q"))
        self.refuses_messages(("there", 3))
        self.hears(("all", "r"), ("there", 3), ("done", ("r", 2)))
        self.is_at({3: ONE}, ("r", 2), False)

    def test_changes(self):
        self.hears(("all", "r"), ("put", 1, ONE), ("done", ("r", 5)))
        self.refuses_messages(("changes", "r", 4), ("changes", "r", 6), ("changes", "q", 5))
        self.hears(("changes", "r", 5))
        self.is_at({1: ONE}, ("r", 5), True)
        self.refuses_messages(("put", 1, ONE), ("put", 2, ONE), ("there", 1), ("step", {1: ONE}), ("step", {2: None}), ("done", ("r", 6)), ("done", ("r", 4)), ("done", ("q", 5)))
        # A step is applied at once.
        self.hears(("step", {2: TWO}))
        self.is_at({1: ONE, 2: TWO}, ("r", 6), True)
        self.refuses_messages(("step", {2: TWO}), ("done", ("r", 5)), ("done", ("r", 7)), ("changes", "r", 5))
        self.hears(("step", {1: None, 9: OTHER}))
        self.is_at({2: TWO, 9: OTHER}, ("r", 7), True)
        self.hears(("done", ("r", 7)))
        self.is_at({2: TWO, 9: OTHER}, ("r", 7), False)
        self.refuses_messages(("step", {1: ONE}), ("done", ("r", 7)))
        # Steps that make more than sixty.
        self.hears(("changes", "r", 7), ("step", {number: ONE for number in range(10, 68)}))
        self.refuses_messages(("step", {100: ONE}))
        self.hears(("step", {100: ONE, 10: None}))
        self.assertEqual((len(self.copy.entries()), self.copy.cookie), (60, ("r", 9)))

    def test_done_of_another_place(self):
        # Behind `all` any place of the opened identity can stand.
        for place in (0, 3, 10 ** 12):
            self.hears(("all", "r"), ("done", ("r", place)))
            self.is_at({}, ("r", place), False)

    def test_opened_anew(self):
        self.hears(("all", "r"), ("put", 1, ONE), ("put", 2, TWO), ("done", ("r", 1)))
        # `all` forgets what was open, be it steps or entries that were put aside.
        self.hears(("all", "r"), ("put", 5, ONE), ("there", 1), ("all", "r"), ("put", 5, OTHER), ("there", 1), ("all", "q"), ("put", 3, ONE), ("all", "r"))
        self.hears(("there", 2), ("done", ("r", 2)))
        self.is_at({2: TWO}, ("r", 2), False)
        self.hears(("all", "q"), ("put", 3, ONE), ("changes", "r", 2))
        self.refuses_messages(("put", 4, ONE), ("there", 2), ("done", ("q", 2)))
        self.hears(("step", {7: ONE}), ("changes", "r", 3), ("step", {8: ONE}))
        # A refused opening leaves open what was.
        self.refuses_messages(("changes", "r", 3))
        self.hears(("done", ("r", 4)))
        self.is_at({2: TWO, 7: ONE, 8: ONE}, ("r", 4), False)
        self.hears(("all", "q"))
        self.refuses_messages(("changes", "r", 3), ("changes", "q", 4))
        self.hears(("put", 1, ONE), ("done", ("q", 1)))
        self.is_at({1: ONE}, ("q", 1), False)
        self.hears(("changes", "q", 1), ("step", {2: ONE}), ("all", "q"), ("there", 2), ("done", ("q", 2)))
        self.is_at({2: ONE}, ("q", 2), False)

    def test_more_than_sixty(self):
        self.hears(("all", "r"), *[("put", number, made) for number, made in many_entries(60).items()], ("done", ("r", 0)))
        self.is_at(many_entries(60), ("r", 0), False)

    def test_catch_up(self):
        row = Row("r", {1: ONE})
        self.assertEqual(self.copy.catch_up(row), 3)
        self.is_at({1: ONE}, ("r", 0), False)
        self.assertEqual(self.copy.catch_up(row), 2)
        row.tell({1: ONE, 2: TWO})
        row.tell({2: TWO})
        row.tell({2: TWO, 5: ONE})
        self.assertEqual(self.copy.catch_up(row), 5)
        self.is_at({2: TWO, 5: ONE}, ("r", 3), False)
        row.tell({})
        row.cut(4)
        self.assertEqual(self.copy.catch_up(row), 2)
        self.is_at({}, ("r", 4), False)
        other = Row("q", {7: TWO})
        self.assertEqual(self.copy.catch_up(other), 3)
        self.is_at({7: TWO}, ("q", 0), False)
        # A row of the same identity that is not as far.
        self.copy.hear(("all", "q"))
        self.copy.hear(("done", ("q", 9)))
        self.assertEqual(self.copy.catch_up(other), 3)
        self.is_at({7: TWO}, ("q", 0), False)

    def test_a_row_that_only_has_the_identity(self):
        self.copy.catch_up(Row("r", {1: ONE}))
        false = Row("r", {2: TWO})
        false.tell({})
        before = state_of(self.copy)
        self.assertEqual(self.refuses(Refused, self.copy.catch_up, false).reason, "step")
        self.assertEqual(state_of(self.copy), before)
        self.copy.hear(("all", "q"))
        self.copy.hear(("put", 3, ONE))
        self.refuses(Refused, self.copy.catch_up, false)
        self.assertIs(self.copy.is_open, True)
        self.hears(("done", ("q", 0)))
        self.is_at({3: ONE}, ("q", 0), False)

    def test_left_open_anywhere(self):
        # [0.21]: from any cookie, left open behind every message, a copy has caught up in the end.
        schema = asking_schema()
        for seed in range(12):
            rng = random.Random(f"copies {seed}")
            tree = some_tree(f"copies {seed}", schema, 6, 3)
            row, copy, trees = Row("r", tree), Copy(), [{}, tree]
            for at in range(14):
                tree = changed_tree(f"copies {seed} {at}", schema, tree) if rng.randrange(8) else {}
                row.tell(tree)
                trees.append(tree)
                if rng.randrange(4) == 0:
                    row.cut(rng.randrange(row.first, row.place + 1))
                messages = row.messages(copy.cookie)
                if rng.randrange(3):
                    messages = messages[:rng.randrange(len(messages) + 1)]
                for message in messages:
                    copy.hear(message)
                    self.assertIn(copy.entries(), trees)
                    if copy.cookie is not None:
                        self.assertLessEqual(copy.cookie[1], row.place)
                if messages and messages[-1][0] == "done":
                    self.assertEqual(state_of(copy), (tree, row.cookie, False))
            many = len(row.messages(copy.cookie))
            self.assertEqual(copy.catch_up(row), many)
            self.assertEqual(state_of(copy), (row.entries(), row.cookie, False))

    def test_from_every_cookie(self):
        schema = asking_schema()
        for seed in range(6):
            tree = some_tree(f"cookies {seed}", schema, 5, 3)
            row, copies = Row("r", tree), []
            for at in range(9):
                copy = Copy()
                copy.catch_up(row)
                copies.append(copy)
                tree = changed_tree(f"cookies {seed} {at}", schema, tree)
                row.tell(tree)
            row.cut(row.place // 2)
            for copy in copies:
                many = len(row.messages(copy.cookie))
                self.assertEqual(copy.catch_up(row), many)
                self.assertEqual(state_of(copy), (tree, row.cookie, False))
                self.assertEqual(copy.catch_up(row), 2)

    def test_wrong_messages(self):
        self.hears(("all", "r"), ("put", 1, ONE), ("done", ("r", 1)))
        wrong = [*wrong_values(), ("all",), ("all", "R"), ("all", "r", 1), ("all", None), ["all", "r"], ("changes", "r"), ("changes", ("r", 1)), ("changes", "r", True),
                 ("changes", "r", -1), ("changes", "r", 10 ** 12 + 1), ("changes", "R", 1), ("changes", "r", 1, 1), ("step",), ("step", None), ("step", {0: ONE}), ("step", {True: ONE}),
                 ("step", {1: {}}), ("step", [(1, ONE)]), ("step", {1: ONE}, 1), ("done",), ("done", "r", 1), ("done", None), ("done", ("r", True)), ("done", ("r", 1), 1), ("done", ["r", 1]),
                 ("there",), ("there", 0), ("there", True), ("there", 1, ONE), ("there", "1"), ("put", 1), ("put", 0, ONE), ("put", True, ONE), ("put", 1, None), ("put", 1, ONE, 1),
                 ("put", 1, list(ONE)), ("gone", 1), ("All", "r"), ("in", 1, ONE), ("", 1), (None, "r"), ("all", ("r",))]
        wrong += [("put", 1, value) for value in wrong_entries()] + [("step", {1: value}) for value in wrong_entries() if value is not None]
        for opening in (None, ("all", "r"), ("changes", "r", 1)):
            if opening is not None:
                self.copy.hear(opening)
            before = state_of(self.copy)
            for value in wrong:
                self.refuses(InvalidOperation, self.copy.hear, value)
            self.assertEqual(state_of(self.copy), before)
        self.refuses_each(self.copy.catch_up, [Row("r")], [(0, InvalidOperation, lambda value: isinstance(value, Row))])
        self.refuses(InvalidOperation, self.copy.catch_up, Copy())
        self.refuses(InvalidOperation, self.copy.catch_up, Row)

    def test_nothing_gives_access(self):
        step = {2: TWO}
        self.hears(("all", "r"), ("put", 1, ONE), ("done", ("r", 1)), ("changes", "r", 1), ("step", step))
        step.clear()
        self.copy.entries().clear()
        self.is_at({1: ONE, 2: TWO}, ("r", 2), True)
        self.cannot_iterate(self.copy)
        self.equals_itself_alone(self.copy, self.copy, [Copy()])
