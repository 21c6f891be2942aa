"""Tests of bailiwick.place.areas."""

import random

from bailiwick.errors import InvalidSchema, InvalidTree, UnknownNumber
from bailiwick.place.areas import area_of, areas_over, in_area
from bailiwick.rules.schemas import Schema
from bailiwick.tree.deeds import do_deed
from bailiwick.tree.trees import does_stand_beneath, level
from tests.makers import asking_schema, some_tree
from tests.samples import Tests, entry, is_empty_dict, is_schema, sample_schema, wrong_values
from tests.test_links import is_one


def is_some_place(value):
    """Whether a wrong value is 0 or 1, the number of an entry, all the same."""
    return value in (0, 1) and not isinstance(value, bool)


def ruling(name, above, text, *values):
    """A share or a rule, its values told as pairs."""
    return entry(above, "label", text, (name,), *[(word, str(value)) for word, value in values])


def plain_areas(schema, tree):
    """The numbers of all shares and rules."""
    return [number for number in sorted(tree) if {"share", "rule"} & set(tree[number][2])]


def plain_in_area(schema, tree, number, area):
    """Whether an entry, or the root, lies in an area, told as the document tells it."""
    ground, classes, values = tree[area][0], tree[area][2], tree[area][3]
    assert {"share", "rule"} & set(classes)
    values = {word: [text for each, form, text in values if each == word] for word in ("least", "most", "without", "of")}
    if number != ground and not (number in tree and does_stand_beneath(tree, number, ground)):
        return False
    depth = (level(tree, number) if number else 0) - (level(tree, ground) if ground else 0)
    if any(depth < int(text) for text in values["least"]) or any(depth > int(text) for text in values["most"]):
        return False
    for out in map(int, values["without"]):
        if out == ground or not (ground == 0 or does_stand_beneath(tree, out, ground)):
            continue
        if number == out or (number and does_stand_beneath(tree, number, out)):
            return False
    if not values["of"]:
        return True
    names = {each.name for each in schema.classes} & set(values["of"])
    return bool(number) and any(schema.is_beneath(own, name) for own in tree[number][2] for name in names)


class AreaTests(Tests):
    """Areas [17.1, 17.2]."""

    def setUp(self):
        self.schema = sample_schema()

    def tree(self, name="share", *values, above=1):
        """A tree with units 1 (2 (3 (4) 5) 6) 7 (8), a human 9 beneath 2, and a share or rule 50."""
        return {
            1: entry(0, "cn", "a", ("unit",)), 2: entry(1, "cn", "b", ("unit",)), 3: entry(2, "cn", "c", ("unit",)),
            4: entry(3, "cn", "d", ("unit",)), 5: entry(2, "cn", "e", ("unit",)), 6: entry(1, "cn", "f", ("unit",)),
            7: entry(0, "cn", "g", ("unit",)), 8: entry(7, "cn", "h", ("unit",)),
            9: entry(2, "cn", "i", ("human", "vip")), 50: ruling(name, above, "s", *values),
        }

    def has(self, numbers, *values, above=1):
        """Tests what lies in the area of a share and of a rule with some values."""
        for name in ("share", "rule"):
            tree = self.tree(name, *values, above=above)
            self.assertEqual(area_of(self.schema, tree, 50), tuple(numbers))
            for number in [0, *tree]:
                self.assertIs(in_area(self.schema, tree, number, 50), number in numbers, number)
                self.assertIs(plain_in_area(self.schema, tree, number, 50), number in numbers, number)
                self.assertEqual(areas_over(self.schema, tree, number), (50,) if number in numbers else ())

    def test_ground(self):
        # The ground and all beneath it, the share or rule itself, too.
        self.has([1, 2, 3, 4, 5, 6, 9, 50])
        self.has([2, 3, 4, 5, 9, 50], above=2)
        self.has([7, 8, 50], above=7)
        self.has([4, 50], above=4)
        self.has([0, 1, 2, 3, 4, 5, 6, 7, 8, 9, 50], above=0)

    def test_least_and_most(self):
        self.has([2, 3, 4, 5, 6, 9, 50], ("least", 1))
        self.has([3, 4, 5, 9], ("least", 2))
        self.has([4], ("least", 3))
        self.has([], ("least", 4))
        self.has([1, 2, 3, 4, 5, 6, 9, 50], ("least", 0))
        self.has([1, 2, 3, 4, 5, 6, 9, 50], ("least", -5))
        self.has([1], ("most", 0))
        self.has([1, 2, 6, 50], ("most", 1))
        self.has([], ("most", -1))
        self.has([2, 6, 50], ("least", 1), ("most", 1))
        self.has([3, 5, 9], ("least", 2), ("most", 2))
        self.has([], ("least", 2), ("most", 1))
        self.has([3, 4, 5, 9, 50], ("least", 1), above=2)
        # Each of several numbers counts.
        self.has([4], ("least", 1), ("least", 3))
        self.has([1], ("most", 2), ("most", 0))

    def test_the_root(self):
        everyone = [1, 2, 3, 4, 5, 6, 7, 8, 9, 50]
        self.has([0, *everyone], ("least", 0), above=0)
        self.has(everyone, ("least", 1), above=0)
        self.has([0], ("most", 0), above=0)
        self.has([0, 1, 7, 50], ("most", 1), above=0)
        self.has([], ("most", -1), above=0)
        self.has([0, 7, 8, 50], ("without", 1), above=0)
        self.has([1, 2, 3, 4, 5, 6, 7, 8], ("of", "unit"), above=0)
        self.has([], ("of", "nothing"), above=0)

    def test_without(self):
        self.has([1, 6, 50], ("without", 2))
        self.has([1, 2, 5, 6, 9, 50], ("without", 3))
        self.has([1, 2, 3, 4, 5, 6, 9], ("without", 50))
        self.has([1, 50], ("without", 2), ("without", 6))
        self.has([1, 6, 50], ("without", 2), ("without", 3), ("without", 4))
        # A link to what does not lie beneath the ground, above it for instance, takes nothing away.
        self.has([2, 3, 4, 5, 9, 50], ("without", 1), above=2)
        self.has([1, 2, 3, 4, 5, 6, 9, 50], ("without", 7))
        # Nor does a link to the ground itself.
        self.has([1, 2, 3, 4, 5, 6, 9, 50], ("without", 1))
        self.has([2, 5, 9, 50], ("without", 2), ("without", 3), above=2)
        self.has([4, 50], ("without", 4), above=4)

    def test_of(self):
        self.has([9], ("of", "human"))
        self.has([9], ("of", "vip"))
        self.has([1, 2, 3, 4, 5, 6], ("of", "unit"))
        # A class above, a frame for instance, and one beneath.
        self.has([1, 2, 3, 4, 5, 6, 9], ("of", "thing"))
        self.has([], ("of", "worker"))
        self.has([], ("of", "top"))
        self.has([1, 2, 3, 4, 5, 6, 9], ("of", "unit"), ("of", "human"))
        # A value that names no class names nothing; where there is no other, nothing lies in the area.
        for name in ("nothing", "Unit", " unit", "cn", "a b", "x" * 100, "*"):
            self.has([], ("of", name))
            self.has([9], ("of", name), ("of", "vip"))
        tree = self.tree("share", ("of", "nowhere"))
        tree[9] = entry(2, "cn", "i", ("nowhere",))
        self.assertEqual(area_of(self.schema, tree, 50), ())

    def test_the_share_itself_by_its_class(self):
        tree = self.tree("share", ("of", "share"))
        self.assertEqual(area_of(self.schema, tree, 50), (50,))
        tree = self.tree("rule", ("of", "rule"), above=0)
        self.assertEqual(area_of(self.schema, tree, 50), (50,))

    def test_all_together(self):
        self.has([3, 4, 5], ("least", 2), ("of", "unit"))
        self.has([3, 5], ("least", 2), ("most", 2), ("of", "unit"))
        self.has([5], ("least", 2), ("most", 2), ("of", "unit"), ("without", 3))
        self.has([9], ("least", 2), ("most", 2), ("of", "human"), ("without", 3), ("without", 1))
        self.has([], ("least", 2), ("of", "vip"), ("without", 2))

    def test_own_values_alone(self):
        # What other entries have does not matter, nor do values of other types.
        tree = self.tree("share", ("rank", 5), ("member", 2), ("to", 2), ("what", "human"))
        tree[1] = entry(0, "cn", "a", ("unit",), ("least", "5"), ("most", "0"), ("of", "human"), ("without", "2"))
        self.assertEqual(area_of(self.schema, tree, 50), (1, 2, 3, 4, 5, 6, 9, 50))

    def test_several_areas(self):
        tree = self.tree("share", ("most", 1))
        tree[40] = ruling("rule", 0, "r", ("of", "human"))
        tree[60] = ruling("share", 2, "t", ("least", 1))
        tree[70] = entry(0, "label", "u", ("group", "rule"))
        tree[80] = entry(0, "label", "v", ("group",), ("most", "9"))
        told = {number: areas_over(self.schema, tree, number) for number in [0, *sorted(tree)]}
        self.assertEqual(told, {
            0: (70,), 1: (50, 70), 2: (50, 70), 3: (60, 70), 4: (60, 70), 5: (60, 70), 6: (50, 70), 7: (70,), 8: (70,),
            9: (40, 60, 70), 40: (70,), 50: (50, 70), 60: (60, 70), 70: (70,), 80: (70,)})
        backward = {number: tree[number] for number in sorted(tree, reverse=True)}
        self.assertEqual(areas_over(self.schema, backward, 9), (40, 60, 70))
        self.assertEqual(area_of(self.schema, backward, 60), (3, 4, 5, 9, 60))

    def test_moves(self):
        # [0.18]: a move carries everything beneath along, and every link to it.
        tree = self.tree("share", ("without", 3))
        word, tree = do_deed(self.schema, tree, ("move", 50, 7, ("label", "s"), True))
        self.assertEqual(area_of(self.schema, tree, 50), (7, 8, 50))
        word, tree = do_deed(self.schema, tree, ("move", 2, 7, ("cn", "b"), True))
        self.assertEqual(area_of(self.schema, tree, 50), (2, 5, 7, 8, 9, 50))
        word, tree = do_deed(self.schema, tree, ("move", 3, 8, ("cn", "new"), False))
        self.assertEqual(area_of(self.schema, tree, 50), (2, 5, 7, 8, 9, 50))
        self.assertEqual(area_of(self.schema, do_deed(self.schema, tree, ("change", 50, (("clear", "without"),)))[1], 50),
                         (2, 3, 4, 5, 7, 8, 9, 50))

    def test_many_trees(self):
        schema = asking_schema()
        for seed in range(40):
            rng = random.Random(f"areas {seed}")
            tree = some_tree(f"areas {seed}", schema, 18, 3)
            for number in rng.sample(sorted(tree), 5):
                above, naming, classes, values = tree[number]
                kept = [value for value in values if value[0] not in ("least", "most", "without", "of")]
                told = [(word, text, text) for word, text in (
                    ("least", str(rng.randrange(-1, 3))), ("most", str(rng.randrange(4))), ("without", str(rng.choice(sorted(tree)))),
                    ("of", rng.choice(("unit", "thing", "human", "share", "nowhere", "x y"))), ("of", "worker")) if rng.randrange(4) == 0]
                tree[number] = (above, naming, (rng.choice(("share", "rule")),), tuple(sorted([*kept, *told])))
            areas = plain_areas(schema, tree)
            for number in [0, *tree]:
                for area in areas:
                    self.assertIs(in_area(schema, tree, number, area), plain_in_area(schema, tree, number, area))
                self.assertEqual(areas_over(schema, tree, number), tuple(
                    [area for area in areas if plain_in_area(schema, tree, number, area)]))
            for area in areas:
                self.assertEqual(area_of(schema, tree, area), tuple(
                    [number for number in [0, *sorted(tree)] if plain_in_area(schema, tree, number, area)]))

    def test_wrong_arguments(self):
        tree = self.tree()
        right = [(0, InvalidSchema, is_schema), (1, InvalidTree, is_empty_dict)]
        self.refuses_each(in_area, [self.schema, tree, 1, 50], [
            *right, (2, UnknownNumber, is_some_place), (3, UnknownNumber, lambda value: False)])
        self.refuses_each(area_of, [self.schema, tree, 50], [*right, (2, UnknownNumber, lambda value: False)])
        self.refuses_each(areas_over, [self.schema, tree, 1], [*right, (2, UnknownNumber, is_some_place)])
        for area in (0, 1, 9, 77, True, "50", None):
            self.assertIs(self.refuses(UnknownNumber, in_area, self.schema, tree, 1, area).asked, area)
            self.assertIs(self.refuses(UnknownNumber, area_of, self.schema, tree, area).asked, area)
        for number in (77, -1, True, False, "1"):
            self.assertIs(self.refuses(UnknownNumber, in_area, self.schema, tree, number, 77).asked, number)
            self.assertIs(self.refuses(UnknownNumber, areas_over, self.schema, tree, number).asked, number)
        loose = {**tree, 50: ruling("share", 1, "s", ("without", 77))}
        self.refuses(InvalidTree, in_area, self.schema, loose, 1, 50)
        self.refuses(InvalidTree, area_of, Schema((), ()), tree, None)
        # in_area raises for the number that is asked, whatever it is.
        for value in wrong_values():
            if not is_some_place(value) and not is_one(value):
                self.refuses(UnknownNumber, in_area, self.schema, tree, value, 50)
