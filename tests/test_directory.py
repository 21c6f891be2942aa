"""Tests of bailiwick.tree.directory."""

import random

from bailiwick.errors import InvalidDeed, InvalidNumber, InvalidSchema, InvalidTree, Refused, TooMany
from bailiwick.rules.judge import is_right
from bailiwick.rules.schemas import Schema
from bailiwick.tree import directory as module
from bailiwick.tree.deeds import is_unit
from bailiwick.tree.directory import Directory
from bailiwick.tree.units import do_unit
from tests.samples import Tests, entry, is_empty_dict, is_schema, sample_schema, sample_tree, wrong_values
from tests.test_units import add


def is_tree_or_none(value):
    """Whether a wrong value is a first tree all the same."""
    return value is None or is_empty_dict(value)


def state_of(directory):
    """All that a directory tells."""
    return (directory.tree, directory.place, directory.used, directory.units())


class DirectoryTests(Tests):
    """Directories [0.2, 0.24, stage 10]."""

    def setUp(self):
        self.schema = sample_schema()
        self.directory = Directory(self.schema, sample_tree())

    def stays(self, error, call, *args):
        """Tests that a call is refused and changes nothing that the directory tells; returns the error."""
        before = state_of(self.directory)
        caught = self.refuses(error, call, *args)
        self.assertEqual(state_of(self.directory), before)
        return caught

    def test_constant(self):
        self.assertEqual(module.MAX_PLACES, 1000)

    def test_example(self):
        directory = Directory(Schema((), ()))
        deed = ("add", 3, 0, ("label", "a"), ("group",), (("label", "a"),))
        told = [directory.do((deed,)), directory.undo(), directory.tree, directory.used, directory.do((deed,))]
        self.assertEqual(told, [("done", 1), 0, {}, (3,), ("fallen", 0, "used", 3)])

    def test_first(self):
        self.assertEqual(state_of(self.directory), (sample_tree(), 0, (1, 2, 5, 10, 20, 30), ()))
        self.assertEqual(self.directory.schema, self.schema)
        self.assertEqual(state_of(Directory(self.schema)), ({}, 0, (), ()))
        self.assertEqual(state_of(Directory(self.schema, None)), ({}, 0, (), ()))
        self.assertEqual(state_of(Directory(self.schema, {})), ({}, 0, (), ()))
        backward = {number: sample_tree()[number] for number in sorted(sample_tree(), reverse=True)}
        directory = Directory(self.schema, backward)
        self.assertEqual(list(directory.tree), [1, 2, 5, 10, 20, 30])
        self.assertEqual(list(directory.tree_at(0)), [1, 2, 5, 10, 20, 30])
        self.assertEqual(directory.used, (1, 2, 5, 10, 20, 30))

    def test_units_that_are_done_and_fall(self):
        one, two = (add(7, 0, "a"), add(6, 7, "b")), (("remove", 5),)
        self.assertEqual(self.directory.do(one), ("done", 1))
        self.assertEqual(self.directory.do(two), ("done", 2))
        tree = do_unit(self.schema, do_unit(self.schema, sample_tree(), one)[1], two)[1]
        self.assertEqual(state_of(self.directory), (tree, 2, (1, 2, 5, 6, 7, 10, 20, 30), (one, two)))
        falls = [
            ((("remove", 77),), (0, "unknown", 77)), ((("remove", 6), ("remove", 1)), (1, "beneath", 1)),
            ((add(8, 0, "c", ("human",)),), (1, "place", 8)), ((add(8, 0, "one"),), (0, "taken", 8)),
            ((add(8, 7, "c", ("unit",), ("boss", "9")),), (1, "link", 8)),
        ]
        for unit, told in falls:
            self.assertEqual(self.directory.do(unit), ("fallen", *told))
            self.assertEqual(state_of(self.directory), (tree, 2, (1, 2, 5, 6, 7, 10, 20, 30), (one, two)))

    def test_a_tree_that_is_there_is_not_a_wrong_one(self):
        faulty = {1: entry(0, "cn", "a", ("human",))}
        self.assertFalse(is_right(self.schema, faulty))
        self.refuses(InvalidTree, Directory, self.schema, faulty)
        self.refuses(InvalidTree, Directory, self.schema, {1: entry(9, "cn", "a", ("unit",))})
        self.refuses(InvalidTree, Directory, self.schema, {True: entry(0, "cn", "a", ("unit",))})

    def test_undo_and_redo(self):
        self.assertEqual(self.stays(Refused, self.directory.undo).reason, "undo")
        self.assertEqual(self.stays(Refused, self.directory.redo).reason, "redo")
        units = [(add(50 + at, 0, f"n{at}"),) for at in range(4)]
        trees = [self.directory.tree]
        for unit in units:
            self.directory.do(unit)
            trees.append(self.directory.tree)
        self.assertEqual(self.stays(Refused, self.directory.redo).reason, "redo")
        for place in (3, 2, 1, 0):
            self.assertEqual(self.directory.undo(), place)
            self.assertEqual((self.directory.tree, self.directory.place), (trees[place], place))
            self.assertEqual(self.directory.units(), tuple(units[:place]))
            self.assertEqual([self.directory.tree_at(each) for each in range(5)], trees)
        self.assertEqual(self.stays(Refused, self.directory.undo).reason, "undo")
        for place in (1, 2, 3, 4):
            self.assertEqual(self.directory.redo(), place)
            self.assertEqual((self.directory.tree, self.directory.place), (trees[place], place))
        self.assertEqual(self.stays(Refused, self.directory.redo).reason, "redo")

    def test_a_unit_behind_an_undo(self):
        for at in range(3):
            self.directory.do((add(50 + at, 0, f"n{at}"),))
        self.directory.undo()
        self.directory.undo()
        # A unit that falls leaves what can be redone.
        self.assertEqual(self.directory.do((("remove", 77),)), ("fallen", 0, "unknown", 77))
        self.assertEqual(sorted(self.directory.tree_at(3)), [1, 2, 5, 10, 20, 30, 50, 51, 52])
        self.assertEqual(self.directory.do((add(60, 0, "x"),)), ("done", 2))
        self.assertEqual(self.stays(Refused, self.directory.redo).reason, "redo")
        self.assertIs(self.stays(InvalidNumber, self.directory.tree_at, 3).value, 3)
        self.assertEqual(sorted(self.directory.tree), [1, 2, 5, 10, 20, 30, 50, 60])
        self.assertEqual(self.directory.units(), ((add(50, 0, "n0"),), (add(60, 0, "x"),)))
        # What only units that are gone used counts as used all the same.
        self.assertEqual(self.directory.used, (1, 2, 5, 10, 20, 30, 50, 51, 52, 60))
        self.assertEqual(self.directory.do((add(52, 0, "y"),)), ("fallen", 0, "used", 52))
        self.assertEqual(self.directory.do((add(61, 0, "y"), add(51, 0, "z"))), ("fallen", 1, "used", 51))

    def test_used_numbers(self):
        # A number that was removed is used still, and so is one that is removed in the same unit.
        self.directory.do((("remove", 5),))
        self.assertEqual(self.directory.do((add(5, 0, "x"),)), ("fallen", 0, "used", 5))
        self.assertEqual(self.directory.do((("remove", 30), add(30, 0, "x"))), ("fallen", 1, "used", 30))
        # One that no tree of a place ever had is not.
        self.assertEqual(self.directory.do((add(7, 0, "x"), ("remove", 7))), ("done", 2))
        self.assertEqual(self.directory.used, (1, 2, 5, 10, 20, 30))
        self.assertEqual(self.directory.do((add(7, 0, "x"), ("remove", 7), add(7, 0, "y"))), ("done", 3))
        # "used" comes ahead of the other codes of an add.
        self.assertEqual(self.directory.do((add(5, 77, "x"),)), ("fallen", 0, "used", 5))
        self.assertEqual(self.directory.do((("remove", 77), add(5, 77, "x"))), ("fallen", 0, "unknown", 77))

    def test_most_places(self):
        for at in range(999):
            self.assertEqual(self.directory.do((("change", 5, (("set", "mark", (str(at),)),)),)), ("done", at + 1))
        last = (("change", 5, (("set", "mark", ("last",)),)),)
        self.assertEqual(self.directory.do(last), ("fallen", 0, "kind", 5))
        more = (("remove", 5),)
        self.assertEqual(self.directory.do(more), ("done", 1000))
        for unit in (more, (("change", 1, ()),), (("remove", 77),)):
            self.assertEqual(self.stays(TooMany, self.directory.do, unit).most, 1000)
        self.stays(InvalidDeed, self.directory.do, ())
        self.assertEqual(self.directory.tree_at(1000), self.directory.tree)
        self.assertIs(self.stays(InvalidNumber, self.directory.tree_at, 1001).value, 1001)
        self.assertEqual(self.directory.tree_at(999)[5][3], (("cn", "five", "five"), ("mark", "998", "998")))
        self.assertEqual(len(self.directory.units()), 1000)
        # Behind an undo there is a place for another one.
        self.assertEqual(self.directory.undo(), 999)
        self.assertEqual(self.directory.do((("change", 1, ()),)), ("done", 1000))
        self.assertEqual(self.stays(TooMany, self.directory.do, more).most, 1000)
        self.assertEqual(self.directory.undo(), 999)
        self.assertEqual(self.directory.redo(), 1000)

    def test_a_unit_that_changes_nothing_has_a_place(self):
        self.assertEqual(self.directory.do((("change", 1, ()),)), ("done", 1))
        self.assertEqual(self.directory.tree, sample_tree())
        self.assertEqual(self.directory.undo(), 0)

    def test_moves(self):
        # [0.18]: a move carries what is beneath along, and the move back makes the tree that was there.
        self.assertEqual(self.directory.do((("move", 2, 5, ("cn", "new"), True),)), ("done", 1))
        self.assertEqual(self.directory.tree[10], sample_tree()[10])
        self.assertEqual(self.directory.do((("move", 2, 1, ("cn", "two"), False),)), ("done", 2))
        self.assertEqual(self.directory.tree, sample_tree())

    def test_many_units(self):
        # [0.18, 10.1]: whatever is done and undone, each tree is right, and each place tells its own tree.
        for seed in range(6):
            rng = random.Random(f"directory {seed}")
            directory = Directory(self.schema, sample_tree())
            trees, place = [directory.tree], 0
            for at in range(80):
                deed = rng.choice((
                    add(rng.randrange(40, 200), rng.choice((0, 1, 2, 5)), f"n{rng.randrange(30)}"),
                    ("remove", rng.choice((5, 30, 20, rng.randrange(40, 200)))),
                    ("change", rng.choice((1, 2, 5)), (("put", "mark", str(at)),)),
                    ("move", rng.choice((2, 5)), rng.choice((0, 1, 5)), ("cn", f"m{rng.randrange(5)}"), False),
                ))
                way = rng.choice(("do", "do", "undo", "redo"))
                if way == "do":
                    told = directory.do((deed,))
                    plain = do_unit(self.schema, trees[place], (deed,), used=tuple(
                        sorted(set(directory.used) - ({deed[1]} if told[0] == "done" and deed[0] == "add" else set()))))
                    self.assertEqual(told[0], plain[0])
                    if told[0] == "done":
                        place += 1
                        trees[place:] = [plain[1]]
                elif way == "undo" and place > 0:
                    place -= 1
                    directory.undo()
                elif way == "redo" and place + 1 < len(trees):
                    place += 1
                    directory.redo()
                self.assertEqual((directory.place, directory.tree), (place, trees[place]))
                self.assertTrue(is_right(self.schema, directory.tree))
            self.assertEqual([directory.tree_at(each) for each in range(len(trees))], trees)

    def test_since(self):
        # An entry that was gone for a while is there since another step, whatever happened besides.
        self.assertEqual(self.directory.since, {1: 0, 2: 0, 5: 0, 10: 0, 20: 0, 30: 0})
        self.directory.do((("change", 1, ()),))
        self.directory.do((("remove", 5), add(7, 0, "a")))
        self.assertEqual(self.directory.since, {1: 0, 2: 0, 7: 2, 10: 0, 20: 0, 30: 0})
        self.directory.do((("remove", 5),))
        self.directory.undo()
        self.assertEqual(self.directory.since, {1: 0, 2: 0, 5: 3, 10: 0, 20: 0, 30: 0})
        self.directory.redo()
        self.directory.undo()
        self.directory.undo()
        self.assertEqual(self.directory.since, {1: 0, 2: 0, 5: 5, 10: 0, 20: 0, 30: 0})
        before = self.directory.since
        self.stays(Refused, self.directory.undo)
        self.directory.do((("remove", 77),))
        self.stays(InvalidDeed, self.directory.do, ())
        self.directory.since.clear()
        self.assertEqual(self.directory.since, before)
        self.assertEqual((Directory(self.schema).since, list(before)), ({}, sorted(before)))

    def test_nothing_gives_access(self):
        tree = sample_tree()
        directory = Directory(self.schema, tree)
        tree.clear()
        directory.tree.clear()
        directory.tree_at(0).clear()
        self.assertEqual(directory.tree, sample_tree())
        directory.do((("remove", 5),))
        directory.tree_at(0).clear()
        directory.tree[5] = None
        self.assertEqual(directory.tree_at(0), sample_tree())
        self.assertNotIn(5, directory.tree)
        self.assertEqual(list(directory.tree), sorted(directory.tree))
        self.assertEqual((type(directory.used), type(directory.units())), (tuple, tuple))

    def test_wrong_arguments(self):
        self.refuses_each(Directory, [self.schema, sample_tree()], [
            (0, InvalidSchema, is_schema), (1, InvalidTree, is_tree_or_none)])
        for value in wrong_values():
            if not is_unit(value):
                self.stays(InvalidDeed, self.directory.do, value)
            if value != 0 or isinstance(value, bool):
                self.assertIs(self.stays(InvalidNumber, self.directory.tree_at, value).value, value)
        self.stays(InvalidDeed, self.directory.do, ("remove", 5))
        self.stays(InvalidDeed, self.directory.do, tuple([("remove", 5)] * 21))
        for place in (-1, 1, 10 ** 39):
            self.stays(InvalidNumber, self.directory.tree_at, place)

    def test_other(self):
        self.cannot_iterate(self.directory)
        self.equals_itself_alone(self.directory, self.directory, [Directory(Schema((), ())), self.schema])
