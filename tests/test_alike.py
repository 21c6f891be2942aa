"""Tests of bailiwick.ask.alike."""

import itertools
import random

from bailiwick.ask import alike
from bailiwick.ask.alike import are_alike, is_normal, normal, opposite, unlike_at, value_by
from bailiwick.ask.filters import is_filter, items_of, value_at
from bailiwick.errors import InvalidFilter, InvalidOperation, TooMany
from tests.makers import asking_schema, deep_of, many_parts, plain_value, some_filters, some_tree
from tests.samples import Tests, never, wrong_values
from tests.test_filters import EVERYTHING, HAS, NOTHING, negated, wrapped, wrong_filters

A, B, C, D, E, F, G = [("has", word) for word in "abcdefg"]
VALUES = ("false", "true", "unknown")


def both(*parts):
    """The and of some filters."""
    return ("and", parts)


def some(*parts):
    """The or of some filters."""
    return ("or", parts)


def no(part):
    """The not of a filter."""
    return ("not", part)


def mirrored(asked):
    """A filter with and and or exchanged."""
    if asked[0] == "not":
        return no(mirrored(asked[1]))
    if asked[0] in ("and", "or"):
        return ("or" if asked[0] == "and" else "and", tuple([mirrored(each) for each in asked[1]]))
    return asked


def sorted_again(asked):
    """A filter with the members of all and and or ascending."""
    if asked[0] in ("and", "or"):
        return (asked[0], tuple(sorted([sorted_again(each) for each in asked[1]])))
    return asked


def rank_by(asked, ranks):
    """The value of a filter, false, unknown and true being 0, 1 and 2."""
    if asked[0] == "and":
        return min([rank_by(each, ranks) for each in asked[1]], default=2)
    if asked[0] == "or":
        return max([rank_by(each, ranks) for each in asked[1]], default=0)
    return 2 - rank_by(asked[1], ranks) if asked[0] == "not" else ranks[asked]


def small_filter(rng, deep=5):
    """A filter of few items, so that its parts meet."""
    first = rng.choice(("and", "or", "item", "item", "not"))
    if deep == 1 or first == "item":
        return rng.choice((A, B, C, D))
    if first == "not":
        return no(small_filter(rng, deep - 1))
    return (first, tuple([small_filter(rng, deep - 1) for _ in range(rng.choice((0, 1, 2, 2, 3)))]))


def small_filters(seed, many):
    """So many filters of few items, within all bounds."""
    rng = random.Random(seed)
    found = []
    while len(found) < many:
        asked = small_filter(rng)
        if many_parts(asked) <= 32:
            found.append(asked)
    return found


class NormalTests(Tests):
    """Normal forms [12.1, 12.2, 12.3, 0.17]."""

    def becomes(self, asked, form):
        """Tests a normal form, and that of the filter with and and or exchanged."""
        for one, other in ((asked, sorted_again(form)), (mirrored(asked), sorted_again(mirrored(form)))):
            self.assertEqual(normal(one), other, one)
            self.assertEqual(normal(other), other)
            self.assertIs(is_normal(other), True)
            self.assertIs(is_normal(one), one == other)
            self.assertEqual(normal(no(one)) if deep_of(one) < 6 else opposite(one), opposite(one))

    def test_constant(self):
        self.assertEqual(alike.MAX_ITEMS, 6)

    def test_pushing(self):
        self.becomes(A, A)
        self.becomes(no(A), no(A))
        self.becomes(no(no(A)), A)
        self.becomes(negated(A, 5), no(A))
        self.becomes(negated(A, 4), A)
        self.becomes(no(EVERYTHING), NOTHING)
        self.becomes(no(no(NOTHING)), NOTHING)
        self.becomes(no(both(A, B)), some(no(A), no(B)))
        self.becomes(no(both(A, no(B))), some(B, no(A)))
        self.becomes(no(both(A, some(B, no(both(C, D))))), some(both(C, D, no(B)), no(A)))
        self.becomes(both(A, no(some(B, no(both(C, D))))), both(A, C, D, no(B)))
        self.becomes(both(no(no(both(A, B))), C), both(A, B, C))

    def test_members_with_the_same_word(self):
        self.becomes(both(A, both(B, C)), both(A, B, C))
        self.becomes(both(both(both(A, B), C), both(D, both(E))), both(A, B, C, D, E))
        self.becomes(both(both(), A, B), both(A, B))
        self.becomes(both(some(A, B), some(both(some(C, D)))), both(some(A, B), some(C, D)))
        # One that only its own rules make one with the same word.
        self.becomes(both(A, some(both(B, C))), both(A, B, C))

    def test_nothing_and_everything(self):
        self.becomes(EVERYTHING, EVERYTHING)
        self.becomes(NOTHING, NOTHING)
        self.becomes(both(A, NOTHING), NOTHING)
        self.becomes(both(A, EVERYTHING), A)
        self.becomes(both(EVERYTHING, EVERYTHING), EVERYTHING)
        self.becomes(both(EVERYTHING, NOTHING), NOTHING)
        self.becomes(both(A, B, some(C, EVERYTHING)), both(A, B))
        self.becomes(both(A, some(B, both(C, NOTHING))), both(A, B))
        self.becomes(both(A, both(B, both(C, some()))), NOTHING)
        self.becomes(both(some(both(some()))), NOTHING)
        self.becomes(some(both(A, NOTHING), both(B, NOTHING)), NOTHING)

    def test_equal_members(self):
        self.becomes(both(A, A), A)
        self.becomes(both(B, A, B, A, B), both(A, B))
        self.becomes(both(no(A), no(A)), no(A))
        self.becomes(both(some(A, B), some(B, A), C), both(C, some(A, B)))
        self.becomes(both(some(A, no(no(B))), some(B, A, B)), some(A, B))
        # Items are equal only if they are so themselves; their forms are not asked.
        one, two = ("is", "cn", "a"), ("is", "cn", "A")
        self.becomes(both(one, two), both(two, one))

    def test_members_that_tell_less(self):
        self.becomes(both(A, some(A, B)), A)
        self.becomes(both(some(B, A), A, C), both(A, C))
        self.becomes(both(no(A), some(B, no(A))), no(A))
        self.becomes(both(some(A, B), some(A, B, C)), some(A, B))
        self.becomes(both(some(C, A, B), some(A, B), some(B, D, A)), some(A, B))
        self.becomes(both(some(A, B), some(A, C)), both(some(A, B), some(A, C)))
        self.becomes(both(some(A, B), some(A, B, C), some(A, B, C, D), A), A)
        self.becomes(both(some(both(A, B), C), C), C)
        # A member of a member that is no member of the whole is not asked.
        self.becomes(both(some(both(A, B), C), A, B), both(A, B, some(C, both(A, B))))
        self.becomes(both(some(both(A, B), C), some(C, D, both(B, A))), some(C, both(A, B)))
        self.becomes(both(A, some(no(A), B)), both(A, some(B, no(A))))

    def test_one_member(self):
        self.becomes(both(A), A)
        self.becomes(both(some(both(some(A)))), A)
        self.becomes(both(some(A, B)), some(A, B))
        self.becomes(both(some(A, B), EVERYTHING), some(A, B))
        self.becomes(no(both(no(A))), A)

    def test_order(self):
        items = [("class", "b"), ("from", "a", "1"), ("has", "b"), ("has", "c"), ("is", "a", "10"), ("is", "a", "9"),
                 ("not", ("class", "a")), ("not", ("within", 3)), ("or", (A, D)), ("or", (A, E)),
                 ("pieces", "a", "", (), "b"), ("pieces", "a", "", ("c",), ""), ("to", "a", "1"), ("within", 9), ("within", 10)]
        for seed in range(5):
            self.assertEqual(normal(both(*random.Random(seed).sample(items, len(items)))), both(*items))

    def test_rules_that_meet(self):
        # Several in one: pushing makes equal members, one member opens into the next, and so on.
        self.becomes(both(no(some(no(A), no(B))), B, some(A, C)), both(A, B))
        self.becomes(both(some(A, both(B, EVERYTHING)), some(B, A, NOTHING), no(no(C))), both(C, some(A, B)))
        self.becomes(some(both(A, some(B, NOTHING)), both(B, A, EVERYTHING, no(NOTHING))), both(A, B))
        self.becomes(both(some(A, some(B, both(C, some(A, C)))), some(C, B, A, A)), some(A, B, C))
        self.becomes(both(some(some(A), both(A, B)), some(both(no(EVERYTHING)), A)), A)
        self.becomes(some(both(A, some(B, A)), both(A, C)), A)

    def test_an_item_and_its_opposite_stay(self):
        self.becomes(both(A, no(A)), both(A, no(A)))
        self.becomes(both(some(A, no(A)), B), both(B, some(A, no(A))))
        self.assertFalse(are_alike(both(A, no(A)), NOTHING))
        self.assertFalse(are_alike(some(A, no(A)), EVERYTHING))

    def test_opposites(self):
        self.assertEqual(opposite(A), no(A))
        self.assertEqual(opposite(no(A)), A)
        self.assertEqual(opposite(EVERYTHING), NOTHING)
        self.assertEqual(opposite(both(A, some(B, no(C)))), some(both(C, no(B)), no(A)))
        self.assertEqual(opposite(negated(A, 5)), A)
        # The opposite of what is six deep can be seven deep, and is no filter then.
        asked = both(A, some(B, both(C, some(D, both(E, F)))))
        self.assertEqual(deep_of(asked), 6)
        told = opposite(asked)
        self.assertEqual(deep_of(told), 7)
        self.assertIs(is_normal(told), False)
        self.refuses(InvalidFilter, normal, told)
        self.assertEqual(told, sorted_again(some(no(A), both(no(B), some(no(C), both(no(D), some(no(E), no(F))))))))
        self.assertEqual(opposite(wrapped(A, 5)), no(A))

    def test_opposites_with_32_and_33_parts(self):
        items = [("within", number) for number in range(1, 31)]
        self.assertEqual(many_parts(opposite(both(*items[:15]))), 31)
        self.assertEqual(many_parts(opposite(both(*items[:15], no(A)))), 32)
        self.assertEqual(self.refuses(TooMany, opposite, both(*items[:16])).most, 32)
        self.assertEqual(self.refuses(TooMany, opposite, both(*items[:15], no(A), no(B))).most, 32)
        self.assertEqual(self.refuses(TooMany, opposite, both(*items)).most, 32)
        self.assertEqual(many_parts(opposite(some(both(*items[:14]), A, A))), 32)
        self.refuses(TooMany, opposite, some(both(*items[:15]), A))
        # Parts that fall together count once.
        self.assertEqual(opposite(both(*[A] * 30)), no(A))
        self.assertEqual(many_parts(opposite(both(*items[:15], A, A, A, no(A), *items[:4], NOTHING))), 1)
        # And so does a normal form itself have too many, if one not becomes many.
        self.assertEqual(many_parts(normal(no(both(*items[:15])))), 31)
        self.assertEqual(many_parts(normal(no(both(*items[:15], no(A))))), 32)
        self.assertEqual(self.refuses(TooMany, normal, no(both(*items[:16]))).most, 32)
        self.assertIs(is_normal(no(both(*items[:16]))), False)
        self.assertEqual(normal(both(*items)), both(*items))
        self.assertEqual(normal(both(*items, A)), both(A, *items))

    def test_is_normal(self):
        self.answers_all(is_normal)
        for value in wrong_filters():
            self.assertIs(is_normal(value), False)
        for asked in (both(B, A), both(A), both(A, A), no(no(A)), no(both(A, B)), both(A, both(B, C)), both(A, some(A, B))):
            self.assertIs(is_normal(asked), False)
        for asked in (both(A, B), A, no(A), EVERYTHING, NOTHING, both(A, some(B, C)), both(A, B, no(A))):
            self.assertIs(is_normal(asked), True)
        self.assertIs(is_normal(["has", "a"]), False)
        self.assertIs(is_normal(("within", True)), False)

    def test_many_filters(self):
        for asked in small_filters("normal", 400):
            form = normal(asked)
            self.assertIs(is_normal(form), True)
            self.assertIs(are_alike(asked, form), True)
            self.assertLessEqual(many_parts(form), 2 * many_parts(asked))
            for other in (both(asked), some(asked, asked), no(no(asked))):
                if is_filter(other):
                    self.assertEqual(normal(other), form)
            turned = opposite(asked)
            if is_filter(turned):
                self.assertEqual(opposite(turned), form)
                self.assertIs(are_alike(no(form), turned), True)

    def test_at_entries(self):
        schema = asking_schema()
        for seed in range(8):
            tree = some_tree(f"alike {seed}", schema, 12)
            for asked in some_filters(f"alike {seed}", 25):
                form = normal(asked)
                for number in tree:
                    value = value_at(schema, tree, asked, number)
                    self.assertEqual(plain_value(schema, tree, form, number), value)
                    turned = {"true": "false", "false": "true", "unknown": "unknown"}[value]
                    self.assertEqual(plain_value(schema, tree, opposite(asked), number), turned)

    def test_wrong_arguments(self):
        for call in (normal, opposite):
            self.refuses_each(call, [HAS], [(0, InvalidFilter, never)])
            for value in wrong_filters():
                self.refuses(InvalidFilter, call, value)


class AlikeTests(Tests):
    """Values by values of items, and filters that are alike [12.4]."""

    def test_value_by(self):
        asked = both(A, some(B, no(C)))
        for values in itertools.product(VALUES, repeat=3):
            told = dict(zip((A, B, C), values))
            ranks = {item: ("false", "unknown", "true").index(told[item]) for item in told}
            value = ("false", "unknown", "true")[rank_by(asked, ranks)]
            self.assertEqual(value_by(asked, told), value)
            self.assertEqual(value_by(asked, {C: told[C], ("within", 3): "unknown", B: told[B], A: told[A]}), value)
        self.assertEqual(value_by(EVERYTHING, {}), "true")
        self.assertEqual(value_by(NOTHING, {A: "true"}), "false")

    def test_values_that_are_none(self):
        right = {A: "true", B: "false"}
        wrong = [
            {}, {A: "true"}, {A: "true", C: "false"}, {A: "true", B: "False"}, {A: "true", B: True}, {A: "true", B: None},
            {**right, C: "none"}, {**right, C: 1}, {**right, "c": "true"}, {**right, 1: "true"}, {**right, None: "true"},
            {**right, both(A): "true"}, {**right, no(A): "true"}, {**right, ("has", "C"): "true"}, {**right, (): "true"},
            tuple(right), list(right), tuple(right.items()), {"a": "true", "b": "false"}, {A: ("true",), B: "false"},
            {A: ["true"], B: "false"}, {A: {}, B: "false"}, {A: A, B: B},
        ]
        for values in [*wrong, *wrong_values()]:
            self.refuses(InvalidOperation, value_by, both(A, B), values)
        self.assertEqual(value_by(both(A, B), right), "false")
        self.assertEqual(value_by(both(A, B), {**right, C: "true"}), "false")
        # True and False are never taken for integers.
        self.refuses(InvalidOperation, value_by, ("within", 1), {("within", True): "true"})
        self.assertEqual(value_by(("within", 1), {("within", 1): "true"}), "true")

    def test_are_alike(self):
        alike_ones = [
            (A, A), (A, both(A)), (both(A, B), both(B, A)), (no(both(A, B)), some(no(A), no(B))), (EVERYTHING, no(NOTHING)),
            (both(A, some(B, C)), some(both(A, B), both(A, C))), (some(A, both(A, B)), A), (both(A, NOTHING), NOTHING),
            (both(some(A, B), some(A, C)), some(A, both(B, C))), (some(A, EVERYTHING, B), both()),
        ]
        for one, other in alike_ones:
            self.assertIs(are_alike(one, other), True)
            self.assertIs(are_alike(other, one), True)
            self.assertIsNone(unlike_at(one, other))
        for one, other in [(A, B), (A, no(A)), (both(A, B), some(A, B)), (some(A, no(A)), EVERYTHING), (both(A, no(A)), NOTHING),
                           (both(A, some(B, no(B))), A), (("is", "cn", "a"), ("is", "cn", "A"))]:
            self.assertIs(are_alike(one, other), False)
            self.assertIs(are_alike(other, one), False)
            self.assertIsNotNone(unlike_at(one, other))

    def test_unlike_at(self):
        told = [
            (A, B, {A: "false", B: "true"}), (A, no(A), {A: "false"}), (some(A, no(A)), EVERYTHING, {A: "unknown"}),
            (both(A, no(A)), NOTHING, {A: "unknown"}), (EVERYTHING, NOTHING, {}), (A, EVERYTHING, {A: "false"}),
            (A, NOTHING, {A: "true"}), (both(A, B), some(A, B), {A: "false", B: "true"}),
            (both(A, B), A, {A: "true", B: "false"}), (both(A, some(B, no(B))), A, {A: "true", B: "unknown"}),
            (both(A, B, C), both(A, B, D), {A: "true", B: "true", C: "false", D: "true"}),
            (some(A, B), B, {A: "true", B: "false"}),
        ]
        for one, other, values in told:
            for first, second in ((one, other), (other, one)):
                found = unlike_at(first, second)
                self.assertEqual(found, values)
                self.assertEqual(list(found), sorted(found))

    def test_many_filters(self):
        rng = random.Random("unlike")
        found = small_filters("unlike", 200)
        for one in found:
            other = rng.choice(found)
            items = sorted({*items_of(one), *items_of(other)})
            plain = None
            for values in itertools.product(VALUES, repeat=len(items)):
                told = dict(zip(items, values))
                ranks = {item: ("false", "unknown", "true").index(told[item]) for item in items}
                self.assertEqual(value_by(one, told), ("false", "unknown", "true")[rank_by(one, ranks)])
                if rank_by(one, ranks) != rank_by(other, ranks):
                    plain = told
                    break
            self.assertEqual(unlike_at(one, other), plain)
            self.assertIs(are_alike(one, other), plain is None)

    def test_six_and_seven_items(self):
        six = both(A, B, C, D, E, F)
        self.assertIs(are_alike(six, both(F, E, some(D, D), C, B, A)), True)
        self.assertIs(are_alike(both(A, B, C), some(D, E, F)), False)
        self.assertEqual(unlike_at(six, both(A, B, C, D, E)), {
            A: "true", B: "true", C: "true", D: "true", E: "true", F: "false"})
        for call in (are_alike, unlike_at):
            for one, other in ((six, G), (G, six), (both(A, B, C, D), both(D, E, F, G)), (both(six, G), both(six, G))):
                self.assertEqual(self.refuses(TooMany, call, one, other).most, 6)
        # The same item counts once, wherever it stands; items that only look alike count each.
        self.assertIs(are_alike(both(six, no(six)), both(six, no(six))), True)
        self.refuses(TooMany, are_alike, both(A, B, C, D, E), both(("is", "a", "x"), ("is", "a", "X")))

    def test_wrong_arguments(self):
        seven = both(A, B, C, D, E, F, G)
        for call in (are_alike, unlike_at):
            self.refuses_each(call, [A, B], [(0, InvalidFilter, never), (1, InvalidFilter, never)])
            for value in wrong_filters()[::3]:
                self.refuses(InvalidFilter, call, value, seven)
                self.refuses(InvalidFilter, call, seven, value)
        self.refuses_each(value_by, [A, {A: "true"}], [(0, InvalidFilter, never), (1, InvalidOperation, never)])
