"""Tests of bailiwick.many.letters."""

import random

from bailiwick.errors import InvalidLetter, InvalidOperation, InvalidSchema, InvalidTree
from bailiwick.many import letters as module
from bailiwick.many.letters import are_letters, fold, horizon, is_letter, settled, stamp_of
from bailiwick.place.views import done_by
from bailiwick.rules.judge import is_right
from bailiwick.rules.schemas import Schema
from tests.rulers import grants, ruling_schema, some_deed
from tests.samples import Tests, entry, is_empty_dict, is_schema, never, sample_schema, sample_tree, wrong_values
from tests.test_deeds import wrong_deeds
from tests.test_histories import first_tree, some_unit
from tests.test_rights import ANYONE, RIGHTS, SEE
from tests.test_units import add

UNIT = (("remove", 5),)
OTHER = (("remove", 20),)


def deed(name, nth, count, who=0, unit=UNIT):
    """A letter that tells a unit."""
    return ("deed", name, nth, count, who, unit)


def quiet(name, many, count):
    """A quiet letter."""
    return ("quiet", name, many, count)


def plain_joined(letters):
    """Whether letters go together, told as the document tells it."""
    for name in {letter[1] for letter in letters}:
        units = [letter for letter in letters if letter[:2] == ("deed", name)]
        quiets = [letter for letter in letters if letter[:2] == ("quiet", name)]
        for one in units:
            for other in units:
                if (one[2] == other[2] and one != other) or (one[2] < other[2] and not one[3] < other[3]):
                    return False
            for each in quiets:
                if (one[2] <= each[2] and one[3] > each[3]) or (one[2] > each[2] and one[3] <= each[3]):
                    return False
        for one in quiets:
            for other in quiets:
                if one[2] < other[2] and not one[3] < other[3]:
                    return False
    return True


def plain_fold(schema, tree, letters):
    """The fold of letters, told as the document tells it."""
    used, fates = set(tree), {}
    for letter in sorted({repr(each): each for each in letters if each[0] == "deed"}.values(), key=lambda each: (each[3], each[1])):
        who = letter[4] if letter[4] in (0, None) or letter[4] in tree else None
        told = done_by(schema, tree, who, letter[5], used=tuple(sorted(used)))
        if told[0] == "done":
            tree = told[1]
            used |= {each[1] for each in letter[5] if each[0] == "add"}
        fates[letter[3], letter[1]] = ("stands",) if told[0] == "done" else told[:3]
    return tree, fates


def plain_horizon(names, letters):
    """The horizon, told as the document tells it."""
    pairs = []
    for name in names:
        counts = {letter[2]: letter[3] for letter in letters if letter[:2] == ("deed", name)}
        run = max([k for k in range(61) if all(nth in counts for nth in range(1, k + 1))])
        told = [counts.get(run, 0)] + [letter[3] for letter in letters if letter[:2] == ("quiet", name) and letter[2] <= run]
        pairs.append((max(told) + 1, name))
    return min(pairs)


class FormTests(Tests):
    """What letters are, and which go together [26.1, 26.2]."""

    def test_constants(self):
        self.assertEqual((module.MAX_WRITERS, module.MAX_MADE, module.MAX_COUNT), (4, 60, 10 ** 6))

    def test_example(self):
        one, two = ("deed", "ann", 1, 1, 0, (("remove", 5),)), ("deed", "bob", 1, 2, 0, (("remove", 5),))
        told = [stamp_of(two), is_letter(("quiet", "ann", 0, 0)), are_letters((one, two, one)), are_letters((one, ("quiet", "ann", 0, 3)))]
        self.assertEqual(told, [(2, "bob"), True, True, False])

    def test_letters(self):
        for letter in (deed("a", 1, 1), deed("a" * 12, 60, 10 ** 6), deed("a", 5, 3), deed("a", 1, 1, None), deed("a", 1, 1, 10 ** 12), deed("a", 1, 1, 99),
                       deed("a", 1, 1, 0, UNIT * 20), deed("a", 1, 1, 0, (("change", 3, ()),))):
            self.assertIs(is_letter(letter), True)
            self.assertEqual(stamp_of(letter), (letter[3], letter[1]))
        for letter in (quiet("a", 0, 0), quiet("a" * 12, 60, 10 ** 6), quiet("b1", 0, 5), quiet("a", 5, 0)):
            self.assertIs(is_letter(letter), True)
            self.assertIsNone(stamp_of(letter))

    def test_no_letters(self):
        wrong = [deed("a", 0, 1), deed("a", 61, 1), deed("a", 1, 0), deed("a", 1, 10 ** 6 + 1), deed("a", True, 1), deed("a", 1, True), deed("", 1, 1), deed("A", 1, 1), deed("a" * 13, 1, 1),
                 deed("a", 1, 1, -1), deed("a", 1, 1, 10 ** 12 + 1), deed("a", 1, 1, True), deed("a", 1, 1, False), deed("a", 1, 1, "0"), deed("a", 1, 1, 0, ()), deed("a", 1, 1, 0, UNIT * 21),
                 deed("a", 1, 1, 0, [("remove", 5)]), deed("a", 1, 1, 0, ("remove", 5)), deed("a", 1, 1, 0, None), deed("a", "1", 1), deed("a", 1, None), deed(None, 1, 1),
                 deed("a", 1, 1)[:5], (*deed("a", 1, 1), 0), list(deed("a", 1, 1)), quiet("a", -1, 0), quiet("a", 61, 0), quiet("a", 0, -1), quiet("a", 0, 10 ** 6 + 1), quiet("a", False, 0),
                 quiet("a", 0, False), quiet("A", 0, 0), quiet("a", "0", 0), quiet("a", 0, 0)[:3], (*quiet("a", 0, 0), 0), ("Deed", "a", 1, 1, 0, UNIT), ("quiet",), ("deed",), (), None,
                 ("quiet", "a", 1, 1, 0, UNIT), ("deed", "a", 0, 0), (None, "a", 0, 0), (("quiet",), "a", 0, 0)]
        wrong += [deed("a", 1, 1, 0, (each,)) for each in wrong_deeds()]
        for value in wrong:
            self.assertIs(is_letter(value), False, value)
            self.assertIs(are_letters((value,)), False, value)
            self.refuses(InvalidLetter, stamp_of, value)
        for value in wrong_values():
            for at in range(1, 6):
                letter = tuple([value if each == at else deed("a", 1, 1)[each] for each in range(6)])
                self.assertIn(is_letter(letter), (True, False))
        self.answers_all(is_letter)
        self.answers_all(are_letters)
        self.refuses_each(stamp_of, [deed("a", 1, 1)], [(0, InvalidLetter, never)])

    def go_together(self, told, *letters):
        """Tests whether letters go together, in each order, also told twice and beside those of another writer."""
        self.assertIs(plain_joined(letters), told)
        other = (deed("zz", 1, 1), quiet("zz", 1, 1), deed("zz", 3, 2))
        for row in (letters, letters[::-1], letters * 2, (*letters, *other), (*other, *letters[::-1], *other)):
            self.assertIs(are_letters(row), told, row)
        self.assertIs(are_letters(list(letters)), False)

    def test_going_together(self):
        self.go_together(True)
        self.go_together(True, deed("a", 1, 1))
        self.go_together(True, deed("a", 1, 1), deed("b", 1, 1), deed("c", 1, 1), deed("d", 1, 1), deed("e", 1, 1))
        # Units: by one condition alone they do not.
        self.go_together(True, deed("a", 1, 1), deed("a", 2, 2))
        self.go_together(True, deed("a", 60, 10 ** 6), deed("a", 2, 2))
        self.go_together(False, deed("a", 1, 1), deed("a", 2, 1))
        self.go_together(False, deed("a", 1, 2), deed("a", 2, 1))
        self.go_together(False, deed("a", 1, 1), deed("a", 1, 2))
        self.go_together(False, deed("a", 1, 1), deed("a", 1, 1, 0, OTHER))
        self.go_together(False, deed("a", 1, 1), deed("a", 1, 1, None))
        self.go_together(False, deed("a", 1, 1), deed("a", 2, 5), deed("a", 3, 4))
        # Quiet letters and units.
        self.go_together(True, deed("a", 1, 1), quiet("a", 1, 1), quiet("a", 0, 0), deed("a", 2, 2))
        self.go_together(True, deed("a", 1, 5), quiet("a", 1, 9), deed("a", 2, 10))
        self.go_together(False, deed("a", 1, 5), quiet("a", 1, 4))
        self.go_together(True, deed("a", 1, 5), quiet("a", 1, 5))
        self.go_together(False, deed("a", 2, 5), quiet("a", 1, 5))
        self.go_together(True, deed("a", 2, 6), quiet("a", 1, 5))
        self.go_together(False, deed("a", 1, 1), quiet("a", 0, 3))
        self.go_together(True, deed("a", 3, 3), quiet("a", 60, 3), quiet("a", 2, 2))
        # Quiet letters among themselves.
        self.go_together(True, quiet("a", 1, 1), quiet("a", 1, 9), quiet("a", 2, 10))
        self.go_together(False, quiet("a", 1, 1), quiet("a", 1, 9), quiet("a", 2, 9))
        self.go_together(False, quiet("a", 1, 5), quiet("a", 2, 5))
        self.go_together(False, quiet("a", 1, 5), quiet("a", 2, 4))
        self.go_together(True, quiet("a", 0, 0), quiet("a", 60, 1))
        # The same ones of unlike writers.
        self.go_together(True, deed("a", 1, 1), deed("b", 1, 2), deed("c", 2, 1))
        self.go_together(True, quiet("a", 1, 5), quiet("b", 2, 4), deed("c", 1, 1))

    def test_many_letters(self):
        told = {True: 0, False: 0}
        for seed in range(600):
            rng = random.Random(f"letters {seed}")
            letters = []
            for _ in range(rng.randrange(1, 5)):
                name, nth, count = rng.choice("ab"), rng.randrange(1, 4), rng.randrange(1, 6)
                letters.append(rng.choice((deed(name, nth, count, 0, rng.choice((UNIT, UNIT, OTHER))), quiet(name, nth - 1, count - 1))))
            is_joined = are_letters(tuple(letters))
            self.assertIs(is_joined, plain_joined(letters))
            told[is_joined] += 1
        self.assertGreater(min(told.values()), 100)


class FoldTests(Tests):
    """Folds [26.3]."""

    def setUp(self):
        self.schema = sample_schema()
        self.tree = sample_tree()

    def folds(self, fates, *letters, tree=None, schema=None):
        """Tests the fates of a fold in several orders of its letters, and returns the tree behind it."""
        schema, tree = schema or self.schema, self.tree if tree is None else tree
        before = repr((tree, letters))
        told = fold(schema, tree, letters)
        self.assertEqual(told, plain_fold(schema, tree, letters))
        self.assertEqual(told[1], fates)
        self.assertEqual(list(told[1]), sorted(fates))
        self.assertEqual(list(told[0]), sorted(told[0]))
        self.assertTrue(is_right(schema, told[0]))
        rng = random.Random(repr(letters))
        for _ in range(4):
            row = [*letters, *rng.sample(letters, rng.randrange(len(letters) + 1))]
            rng.shuffle(row)
            self.assertEqual(fold(schema, tree, tuple(row)), told)
        self.assertEqual(repr((tree, letters)), before)
        return told[0]

    def test_without_letters(self):
        self.assertEqual(self.folds({}), self.tree)
        self.assertEqual(self.folds({}, quiet("a", 0, 5)), self.tree)
        backward = {number: self.tree[number] for number in sorted(self.tree, reverse=True)}
        self.assertEqual(list(self.folds({}, tree=backward)), sorted(self.tree))

    def test_order_of_stamps(self):
        # By the count, then by the name; the order of the letters means nothing.
        one, two = deed("bob", 1, 1, 0, (add(7, 0, "x"),)), deed("ann", 1, 2, 0, (add(8, 7, "y"),))
        tree = self.folds({(1, "bob"): ("stands",), (2, "ann"): ("stands",)}, one, two)
        self.assertEqual(sorted(set(tree) - set(self.tree)), [7, 8])
        self.folds({(1, "ann"): ("fallen", 0, "unknown"), (1, "bob"): ("stands",)}, one, deed("ann", 1, 1, 0, (add(8, 7, "y"),)))
        self.folds({(9, "ann"): ("stands",), (10, "ann"): ("fallen", 0, "unknown"), (10, "bob"): ("fallen", 0, "unknown")},
                   deed("ann", 1, 9), deed("ann", 2, 10), deed("bob", 1, 10))

    def test_a_unit_that_falls_changes_nothing(self):
        unit = (add(7, 0, "x"), ("remove", 5), ("remove", 1))
        tree = self.folds({(1, "a"): ("fallen", 2, "beneath")}, deed("a", 1, 1, 0, unit))
        self.assertEqual(tree, self.tree)
        # Its numbers are not used, so that another unit can add them.
        self.folds({(1, "a"): ("fallen", 2, "beneath"), (2, "a"): ("stands",)}, deed("a", 1, 1, 0, unit), deed("a", 2, 2, 0, (add(7, 0, "x"),)))

    def test_codes_of_all_stages(self):
        told = [((("remove", 77),), (0, "unknown")), ((("remove", 5), ("remove", 5)), (1, "unknown")), ((add(8, 0, "c", ("human",)),), (1, "place")),
                ((add(8, 5, "c", ("human",), ("boss", "9")),), (1, "link")), ((("remove", 5), add(8, 0, "c", ("human",))), (2, "place"))]
        for unit, fate in told:
            self.folds({(1, "a"): ("fallen", *fate)}, deed("a", 1, 1, 0, unit))
        for who, code in ((None, "denied"), (10, "denied"), (0, None)):
            self.folds({(1, "a"): ("stands",) if code is None else ("fallen", 0, "absent")}, deed("a", 1, 1, who))

    def test_used_numbers(self):
        used = ("fallen", 0, "used")
        # Of the first tree, though its entry is gone.
        self.folds({(1, "a"): ("stands",), (2, "a"): used}, deed("a", 1, 1), deed("a", 2, 2, 0, (add(5, 0, "x"),)))
        # Of a unit ahead that stands, though its entry is gone, even within the unit.
        one = deed("a", 1, 1, 0, (add(7, 0, "x"),))
        self.folds({(1, "a"): ("stands",), (2, "b"): used}, one, deed("b", 1, 2, 0, (add(7, 0, "y"),)))
        self.folds({(1, "a"): ("stands",), (2, "b"): ("stands",), (3, "b"): used}, one, deed("b", 1, 2, 0, (("remove", 7),)), deed("b", 2, 3, 0, (add(7, 0, "y"),)))
        both = deed("a", 1, 1, 0, (add(7, 0, "x"), ("remove", 7)))
        self.folds({(1, "a"): ("stands",), (2, "b"): used}, both, deed("b", 1, 2, 0, (add(7, 0, "y"),)))
        # Within a unit a number that is gone again can be added anew.
        self.folds({(1, "a"): ("stands",)}, deed("a", 1, 1, 0, (add(7, 0, "x"), ("remove", 7), add(7, 0, "y"))))
        self.folds({(1, "a"): ("fallen", 1, "used")}, deed("a", 1, 1, 0, (("remove", 5), add(5, 0, "y"))))
        # A unit behind does not count.
        self.folds({(1, "a"): ("stands",), (2, "b"): used}, one, deed("b", 1, 2, 0, (add(7, 5, "y"),)))

    def test_who(self):
        schema = ruling_schema()
        rights = [("may", right) for right in RIGHTS]
        tree = {1: entry(0, "cn", "one", ("unit",)), 3: entry(1, "cn", "ann", ("human",)), 4: entry(1, "cn", "bob", ("human",)), 9: grants(0, "r", 1, *rights, ("who", "known"))}
        change = (("change", 4, (("put", "mail", "x"),)),)
        # Somebody without an entry at that moment is nobody known.
        self.folds({(1, "a"): ("stands",)}, deed("a", 1, 1, 3, change), tree=tree, schema=schema)
        self.folds({(1, "a"): ("fallen", 0, "absent")}, deed("a", 1, 1, None, change), tree=tree, schema=schema)
        self.folds({(1, "a"): ("fallen", 0, "absent")}, deed("a", 1, 1, 77, change), tree=tree, schema=schema)
        self.folds({(1, "a"): ("stands",), (2, "a"): ("fallen", 0, "absent")}, deed("a", 1, 1, 0, (("remove", 3),)), deed("a", 2, 2, 3, change), tree=tree, schema=schema)
        self.folds({(1, "b"): ("stands",), (2, "a"): ("stands",)}, deed("a", 1, 2, 0, (("remove", 3),)), deed("b", 1, 1, 3, change), tree=tree, schema=schema)
        name = ("cn", "new")
        comes = deed("a", 1, 1, 0, (("add", 77, 1, name, ("human",), (name,)),))
        self.folds({(1, "a"): ("stands",), (2, "b"): ("stands",)}, comes, deed("b", 1, 2, 77, change), tree=tree, schema=schema)
        # Nobody known stays so for a whole unit, though the unit adds its entry.
        tree[10] = grants(0, "s", 2, SEE, ("may", "add"), ("may", "write"), ("of", "unit"), ANYONE)
        tree[11] = grants(0, "t", 2, SEE, ("may", "add"), ("may", "write"), ("most", 0), ANYONE)
        tree[12] = grants(0, "u", 3, SEE, ("of", "human"), ANYONE)
        unit = (("add", 77, 1, name, ("human",), (name,)), *change)
        self.folds({(1, "a"): ("fallen", 1, "denied")}, deed("a", 1, 1, 77, unit), tree=tree, schema=schema)
        self.folds({(1, "a"): ("stands",)}, deed("a", 1, 1, 3, unit), tree=tree, schema=schema)

    def test_many_folds(self):
        schema = ruling_schema()
        words = {}
        for seed in range(25):
            rng = random.Random(f"folds {seed}")
            tree, letters, counts = first_tree(), [], {"a": 0, "b": 0, "c": 0}
            for nth in range(1, 5):
                for name in counts:
                    counts[name] += rng.randrange(1, 3)
                    number = rng.randrange(110, 125)
                    unit = some_unit(rng, schema, tree, number) if rng.randrange(3) else (some_deed(rng, schema, tree, number),)
                    letters.append(deed(name, nth, counts[name], rng.choice((0, 0, 0, None, 3, 5, 112)), unit))
            _, fates = plain_fold(schema, tree, letters)
            for fate in fates.values():
                words[fate[0]] = words.get(fate[0], 0) + 1
            self.folds(fates, *letters, tree=tree, schema=schema)
        self.assertGreater(min(words.values()), 40)

    def test_wrong_arguments(self):
        self.refuses_each(fold, [self.schema, self.tree, ()], [
            (0, InvalidSchema, is_schema), (1, InvalidTree, is_empty_dict), (2, InvalidLetter, lambda value: isinstance(value, tuple) and value == ())])
        faulty = {1: entry(0, "cn", "a", ("human",))}
        self.assertFalse(is_right(self.schema, faulty))
        self.refuses(InvalidTree, fold, self.schema, faulty, None)
        self.refuses(InvalidTree, fold, Schema((), ()), self.tree, None)
        for letters in ([deed("a", 1, 1)], (deed("a", 1, 1), deed("a", 1, 2)), (quiet("a", 0, 1), deed("a", 1, 1)), deed("a", 1, 1), (None,)):
            self.refuses(InvalidLetter, fold, self.schema, self.tree, letters)
        told = fold(self.schema, self.tree, ())
        told[0].clear()
        self.assertEqual(self.tree, sample_tree())


class HorizonTests(Tests):
    """Horizons and settled stamps [26.4]."""

    NAMES = ("ann", "bob")

    def tells(self, names, letters, bound, *stamps):
        """Tests the horizon and the settled stamps."""
        self.assertEqual(horizon(names, letters), bound)
        self.assertEqual(plain_horizon(names, letters), bound)
        self.assertEqual(settled(names, letters), stamps)
        told = sorted({(letter[3], letter[1]) for letter in letters if letter[0] == "deed"})
        self.assertEqual(stamps, tuple([stamp for stamp in told if stamp < bound]))
        for row in (letters[::-1], letters * 2):
            self.assertEqual((horizon(names, row), settled(names, row)), (bound, stamps))

    def test_without_letters(self):
        for names in (("ann",), ("ann", "bob"), ("a", "b", "c", "d")):
            self.tells(names, (), (1, names[0]))

    def test_runs(self):
        one, two, three = deed("ann", 1, 3), deed("ann", 2, 5), deed("ann", 3, 9)
        self.tells(("ann",), (one,), (4, "ann"), (3, "ann"))
        self.tells(("ann",), (one, two), (6, "ann"), (3, "ann"), (5, "ann"))
        self.tells(("ann",), (one, three), (4, "ann"), (3, "ann"))
        self.tells(("ann",), (two, three), (1, "ann"))
        self.tells(("ann",), (three, two, one), (10, "ann"), (3, "ann"), (5, "ann"), (9, "ann"))

    def test_quiet_letters(self):
        one = deed("ann", 1, 3)
        self.tells(("ann",), (quiet("ann", 0, 2),), (3, "ann"))
        self.tells(("ann",), (quiet("ann", 0, 2), one), (4, "ann"), (3, "ann"))
        self.tells(("ann",), (quiet("ann", 1, 7), one), (8, "ann"), (3, "ann"))
        # A quiet letter counts only if all units that it tells are known.
        self.tells(("ann",), (quiet("ann", 1, 7),), (1, "ann"))
        self.tells(("ann",), (quiet("ann", 2, 7), one), (4, "ann"), (3, "ann"))
        self.tells(("ann",), (quiet("ann", 2, 7), one, quiet("ann", 1, 5)), (6, "ann"), (3, "ann"))
        self.tells(("ann",), (quiet("ann", 1, 10 ** 6), one), (10 ** 6 + 1, "ann"), (3, "ann"))

    def test_several_writers(self):
        one, two = deed("ann", 1, 3), deed("bob", 1, 3)
        # The least one counts, of equal counts the least name.
        self.tells(self.NAMES, (one,), (1, "bob"))
        self.tells(self.NAMES, (two,), (1, "ann"))
        self.tells(self.NAMES, (one, two), (4, "ann"), (3, "ann"), (3, "bob"))
        self.tells(self.NAMES, (one, quiet("bob", 0, 2)), (3, "bob"), (3, "ann"))
        self.tells(self.NAMES, (two, quiet("ann", 0, 2)), (3, "ann"))
        self.tells(self.NAMES, (two, quiet("ann", 0, 3)), (4, "ann"), (3, "bob"))
        self.tells(("ann", "bob", "cy"), (one, two), (1, "cy"))

    def test_what_is_settled_under_all_letters_still_to_come(self):
        # Whatever is told besides, so that all go together.
        schema, tree = sample_schema(), sample_tree()
        grown = 0
        for seed in range(60):
            rng = random.Random(f"settled {seed}")
            letters = []
            for _ in range(30):
                name, nth = rng.choice(self.NAMES), rng.randrange(1, 5)
                count = 2 * nth - rng.randrange(2)
                number = rng.choice((1, 2, 5, 10, 20, 30, 7))
                unit = rng.choice(((("remove", number),), (add(7, 0, "x"),), (("move", number, rng.choice((0, 1, 5)), ("cn", f"n{seed}"), True),)))
                letter = rng.choice((deed(name, nth, count, 0, unit), quiet(name, nth, count + rng.randrange(2))))
                if not are_letters((*letters, letter)):
                    continue
                bound, stamps, fates = horizon(self.NAMES, tuple(letters)), settled(self.NAMES, tuple(letters)), fold(schema, tree, tuple(letters))[1]
                letters.append(letter)
                now = tuple(letters)
                newer = fold(schema, tree, now)[1]
                self.assertGreaterEqual(horizon(self.NAMES, now), bound)
                self.assertLessEqual(set(stamps), set(settled(self.NAMES, now)))
                self.assertEqual({stamp: newer[stamp] for stamp in stamps}, {stamp: fates[stamp] for stamp in stamps})
                if letter[0] == "deed" and letter not in letters[:-1]:
                    self.assertGreaterEqual((letter[3], letter[1]), bound)
                self.tells(self.NAMES, now, plain_horizon(self.NAMES, now), *settled(self.NAMES, now))
                grown += len(settled(self.NAMES, now)) > len(stamps)
        self.assertGreater(grown, 20)

    def test_wrong_arguments(self):
        for call in (horizon, settled):
            self.refuses_each(call, [self.NAMES, ()], [
                (0, InvalidOperation, lambda value: isinstance(value, tuple) and value in (("a",), ("a", "b"))),
                (1, InvalidLetter, lambda value: isinstance(value, tuple) and value == ())])
            for names in ((), ("b", "a"), ("a", "a"), ("a", "b", "c", "d", "e"), ["a"], "a", ("A",), ("",), (1,), None, ("a", None)):
                self.refuses(InvalidOperation, call, names, None)
            call(("a", "b", "c", "d"), ())
            for letters in ((deed("cy", 1, 1),), (quiet("cy", 0, 0),), (deed("ann", 1, 1), quiet("zed", 0, 0)), (deed("ann", 1, 1), deed("ann", 1, 2)), [deed("ann", 1, 1)],
                            deed("ann", 1, 1), (None,)):
                self.refuses(InvalidLetter, call, self.NAMES, letters)
