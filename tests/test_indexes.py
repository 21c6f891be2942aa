"""Tests of bailiwick.ask.indexes."""

from bailiwick.ask import indexes
from bailiwick.ask.alike import normal
from bailiwick.ask.filters import value_at
from bailiwick.ask.indexes import Index
from bailiwick.base.kinds import is_less, pattern_form
from bailiwick.errors import InvalidFilter, InvalidOperation, InvalidSchema, InvalidText, InvalidTree, InvalidWord
from bailiwick.rules.schemas import Schema
from tests.makers import asking_schema, changed_tree, plain_value, some_filters, some_tree
from tests.samples import Tests, entry, is_empty_dict, is_schema, never, sample_schema, sample_tree, wrong_values
from tests.test_filters import EVERYTHING, NOTHING, wrong_filters
from tests.test_types import is_some_word


def plain_grams(signs):
    """The grams of a string."""
    return {signs[at:at + 3] for at in range(len(signs)) if at + 3 <= len(signs)}


def plain_gram_numbers(schema, tree, word, gram):
    """The numbers of the entries that have a value of a type with a gram in its marked form."""
    if schema.kind_of(word) not in ("exact", "text"):
        return []
    return [number for number in sorted(tree)
            if any(each == word and gram in plain_grams(f"\n{form}\n") for each, form, text in tree[number][3])]


def plain_candidates(schema, tree, leaf):
    """The candidates of a leaf "pieces", none if its pattern does not fit."""
    kind = schema.kind_of(leaf[1])
    pieces = kind and pattern_form(kind, leaf[2:])
    if not pieces:
        return []
    first, middles, last = pieces
    strings = [*middles, "\n" + first if first else "", last + "\n" if last else ""]
    grams = set().union(*[plain_grams(signs) for signs in strings])
    words = schema.reach(leaf[1])
    having = [number for number in sorted(tree) if any(each in words for each, form, text in tree[number][3])]
    return [number for number in having
            if all(any(number in plain_gram_numbers(schema, tree, word, gram) for word in words) for gram in grams)]


def leaves_of(asked):
    """All items of a filter, repeated ones again."""
    if asked[0] in ("and", "or"):
        return [leaf for each in asked[1] for leaf in leaves_of(each)]
    return leaves_of(asked[1]) if asked[0] == "not" else [asked]


def state_of(index):
    """All that an index tells of its tree by itself."""
    return index.entries(), index.looked


class Indexed(Tests):
    """Tests with an index of a tree."""

    def setUp(self):
        self.schema = sample_schema()
        self.tree = sample_tree()
        self.index = Index(self.schema, self.tree)

    def tells(self, index, tree, schema=None):
        """Tests that an index tells its tables as a tree has them."""
        schema = schema or self.schema
        self.assertEqual(list(index.entries().items()), sorted(tree.items()))
        rows = [(word, form, number) for number in tree for word, form, text in tree[number][3]]
        for word in [each.name for each in schema.types]:
            forms = {form for each, form, number in rows if each == word}
            for form in [*forms, "none", "a"]:
                numbers = sorted(number for each, other, number in rows if (each, other) == (word, form))
                self.assertEqual(index.with_form(word, form), tuple(numbers))
            grams = {gram for form in forms for gram in plain_grams(f"\n{form}\n")}
            for gram in [*grams, "abc", "\n\n\n", "\na\n"]:
                self.assertEqual(index.with_gram(word, gram), tuple(plain_gram_numbers(schema, tree, word, gram)))
            kind = schema.kind_of(word)
            if kind in ("exact", "number", "text"):
                pairs = index.ordered(word)
                self.assertEqual(sorted(pairs), sorted((form, number) for each, form, number in rows if each == word))
                for one, other in zip(pairs, pairs[1:]):
                    self.assertTrue(is_less(kind, one[0], other[0]) or (one[0] == other[0] and one[1] < other[1]))

    def answers(self, index, tree, asked, schema=None):
        """Tests that an index tells of a filter what walking tells, with so many looks as there are candidates."""
        schema = schema or self.schema
        values = {number: value_at(schema, tree, asked, number) for number in sorted(tree)}
        told = index.sets(asked)
        self.assertEqual(told, tuple(tuple([number for number in values if values[number] == value])
                                     for value in ("true", "false")), asked)
        looks = sum(len(plain_candidates(schema, tree, leaf)) for leaf in leaves_of(asked) if leaf[0] == "pieces")
        self.assertEqual(index.looked, looks, asked)
        return told


class IndexTests(Indexed):
    """Indexes [13.1, 13.2, 13.3, 0.17]."""

    def test_constant(self):
        self.assertEqual(indexes.MARK, "\n")

    def test_sets(self):
        everyone = (1, 2, 5, 10, 20, 30)
        told = {
            EVERYTHING: (everyone, ()), NOTHING: ((), everyone), ("has", "mail"): ((10,), (20, 30)),
            ("not", ("has", "mail")): ((20, 30), (10,)), ("has", "none"): ((), ()), ("is", "mark", "x"): ((), ()),
            ("from", "mark", "5"): ((2,), (1, 5, 10, 20, 30)), ("to", "mark", "4"): ((), everyone),
            ("from", "ok", "yes"): ((), ()), ("is", "boss", "10"): ((20,), (10, 30)), ("class", "worker"): ((30,), (1, 2, 5, 10, 20)),
            ("class", "thing"): (everyone, ()), ("class", "none"): ((), ()), ("within", 2): ((2, 10, 20, 30), (1, 5)),
            ("within", 77): ((), everyone), ("is", "nick", "REX"): ((20,), (10, 30)),
            ("pieces", "cn", "", ("e",), ""): ((1, 5, 20), (2, 10, 30)),
            ("and", (("has", "mail"), ("within", 2))): ((10,), (1, 5, 20, 30)),
            ("or", (("has", "mail"), ("within", 2))): ((2, 10, 20, 30), ()),
        }
        for asked, sets in told.items():
            self.assertEqual(self.answers(self.index, self.tree, asked), sets, asked)
        self.assertEqual(Index(self.schema, {}).sets(EVERYTHING), ((), ()))

    def test_tables(self):
        self.tells(self.index, self.tree)
        self.assertEqual(self.index.with_form("cn", "bob b"), (20,))
        self.assertEqual(self.index.with_form("cn", "Bob  B"), ())
        self.assertEqual(self.index.with_form("pal", "30"), (30,))
        self.assertEqual(self.index.with_form("none", "a"), ())
        # Just this type, not what is beneath it.
        self.assertEqual(self.index.with_form("cn", "rex"), ())
        self.assertEqual(self.index.ordered("cn"), (
            ("ann", 10), ("bob b", 20), ("cy", 30), ("five", 5), ("one", 1), ("two", 2)))
        self.assertEqual(self.index.ordered("nick"), ())
        self.assertEqual(self.index.ordered("pet"), (("rex", 20),))
        tree = {at: entry(0, "cn", f"n{at}", ("unit",), ("mark", text), ("mark", "0"), ("mail", text))
                for at, text in ((4, "10"), (3, "9"), (2, "-1"), (1, "10"))}
        index = Index(self.schema, tree)
        self.assertEqual(index.ordered("mark"), (
            ("-1", 2), ("0", 1), ("0", 2), ("0", 3), ("0", 4), ("9", 3), ("10", 1), ("10", 4)))
        self.assertEqual(index.ordered("mail"), (("-1", 2), ("10", 1), ("10", 4), ("9", 3)))
        self.tells(index, tree)

    def test_grams(self):
        self.assertEqual(self.index.with_gram("cn", "\nbo"), (20,))
        self.assertEqual(self.index.with_gram("cn", "b b"), (20,))
        self.assertEqual(self.index.with_gram("cn", " b\n"), (20,))
        self.assertEqual(self.index.with_gram("cn", "\ncy"), (30,))
        self.assertEqual(self.index.with_gram("cn", "one"), (1,))
        for gram in ("rex", "B b", "\n\nb", "b\n\n", "\n\n\n", "   "):
            self.assertEqual(self.index.with_gram("cn", gram), ())
        self.assertEqual(self.index.with_gram("pet", "rex"), (20,))
        # Kinds without pieces have no grams, and types that there are not have none either.
        for word in ("mark", "boss", "ok", "none"):
            self.assertEqual(self.index.with_gram(word, "\n10"), ())
        single = Index(self.schema, {1: entry(0, "cn", "a", ("unit",)), 2: entry(0, "cn", "aaaa", ("unit",))})
        self.assertEqual(single.with_gram("cn", "\na\n"), (1,))
        self.assertEqual(single.with_gram("cn", "aaa"), (2,))

    def test_looks(self):
        tree = {
            1: entry(0, "cn", "abcd", ("human",)), 2: entry(0, "cn", "bcd", ("human",), ("nick", "abc")),
            3: entry(0, "cn", "x", ("human", "vip"), ("nick", "abcx"), ("pet", "xbcd")), 4: entry(0, "cn", "ab", ("unit",)),
            5: entry(0, "mail", "abcd", ("unit",)), 6: entry(4, "cn", "abcd", ("nowhere",), ("mail", "abcd")),
        }
        looks = {
            # Grams at the beginning, in the middle and at the end.
            ("abc", (), ""): [1, 2, 3, 6], ("", ("abc",), ""): [1, 2, 3, 6], ("", (), "bcd"): [1, 2, 3, 6], ("ab", (), ""): [1, 2, 3, 4, 6],
            ("", (), "cd"): [1, 2, 3, 6], ("", (), "bc"): [2],
            # Not always the same value has all of them.
            ("", ("abcd",), ""): [1, 2, 3, 6], ("abc", (), "cd"): [1, 2, 3, 6], ("xb", ("abc",), ""): [3],
            # Without grams all that have a value of the reach are looked at.
            ("a", (), ""): [1, 2, 3, 4, 6], ("", (), "d"): [1, 2, 3, 4, 6], ("a", ("b", "cd"), "x"): [1, 2, 3, 4, 6],
            ("", ("zz",), ""): [1, 2, 3, 4, 6], ("", ("zzz",), ""): [], (" ab", ("c",), ""): [1, 2, 3, 4, 6],
            # A pattern that does not fit is not looked for.
            (" ", (), "a"): [], ("a", (), " "): [],
        }
        index = Index(self.schema, tree)
        self.assertEqual(index.looked, 0)
        for pieces, numbers in looks.items():
            leaf = ("pieces", "cn", *pieces)
            self.assertEqual(plain_candidates(self.schema, tree, leaf), numbers, leaf)
            self.answers(index, tree, leaf)
            self.assertEqual(index.looked, len(numbers), leaf)
        # Entries that cannot bear the type are candidates, too, though the leaf is unknown there.
        self.assertEqual(self.answers(index, tree, ("pieces", "mail", "abcd", (), "")), ((), (1, 2, 3)))
        self.assertEqual(index.looked, 2)
        # A type beneath has a reach of its own.
        self.answers(index, tree, ("pieces", "pet", "", ("bc",), ""))
        self.assertEqual(index.looked, 1)

    def test_looks_of_whole_filters(self):
        leaf, other = ("pieces", "cn", "o", (), ""), ("pieces", "cn", "", ("e",), "")
        for asked, many in ((leaf, 6), (("not", leaf), 6), (("and", (leaf, leaf)), 12), (("or", (leaf, other, leaf)), 18),
                            (("and", (NOTHING, leaf)), 6), (("or", (EVERYTHING, ("not", ("not", leaf)))), 6),
                            (("has", "cn"), 0), (("is", "cn", "one"), 0), (("from", "mark", "1"), 0), (("class", "thing"), 0),
                            (("within", 1), 0), (("pieces", "mark", "1", (), ""), 0), (("pieces", "none", "a", (), ""), 0),
                            (EVERYTHING, 0), (("pieces", "mail", "a", (), ""), 1)):
            self.answers(self.index, self.tree, asked)
            self.assertEqual(self.index.looked, many, asked)

    def test_the_last_call_counts(self):
        leaf = ("pieces", "cn", "o", (), "")
        self.index.sets(leaf)
        self.assertEqual(self.index.looked, 6)
        # A refused call changes nothing, and nothing else looks.
        self.refuses(InvalidFilter, self.index.sets, ("has",))
        self.refuses(InvalidTree, self.index.follow, None)
        self.refuses(InvalidText, self.index.with_form, "cn", "")
        self.index.with_form("cn", "one")
        self.index.ordered("cn")
        self.index.with_gram("cn", "one")
        self.index.entries()
        self.index.follow({})
        self.assertEqual(self.index.looked, 6)
        self.index.sets(leaf)
        self.assertEqual(self.index.looked, 0)

    def test_many_trees(self):
        schema = asking_schema()
        for seed in range(10):
            tree = some_tree(f"index {seed}", schema, (0, 1, 3, 8, 15, 25)[seed % 6])
            index = Index(schema, tree)
            self.tells(index, tree, schema)
            for asked in some_filters(f"index {seed}", 25):
                told = self.answers(index, tree, asked, schema)
                # What the normal form, the index and walking tell agrees at every entry, unknown included.
                self.assertEqual(index.sets(normal(asked)), told)
                for number in tree:
                    value = "true" if number in told[0] else "false" if number in told[1] else "unknown"
                    self.assertEqual(plain_value(schema, tree, asked, number), value)

    def test_the_least_and_the_greatest_number(self):
        tree = {at: entry(0, "cn", f"n{at}", ("unit",), ("mark", "5")) for at in (1, 10 ** 12)}
        index = Index(self.schema, tree)
        self.tells(index, tree)
        for asked in (("from", "mark", "5"), ("to", "mark", "5"), ("from", "mark", "6"), ("to", "mark", "4")):
            self.answers(index, tree, asked)

    def test_an_entry_with_many_values(self):
        values = [("mark", str(at)) for at in range(-25, 25)] + [("mail", f"m{at}") for at in range(9)]
        tree = {at: entry(0, "cn", f"n{at}", ("human",), *values) for at in range(1, 4)}
        index = Index(self.schema, tree)
        self.tells(index, tree)
        for asked in (("from", "mark", "-3"), ("to", "mark", "-25"), ("to", "mark", "-26"), ("from", "mark", "25"),
                      ("is", "mail", "m8"), ("pieces", "mail", "m", (), "8")):
            self.answers(index, tree, asked)


class FollowTests(Indexed):
    """Indexes that follow trees [13.4]."""

    def follows(self, index, tree, schema=None):
        """Tests that an index follows a tree, and tells which entries were unlike."""
        before = index.entries()
        unlike = [number for number in sorted({*before, *tree}) if before.get(number) != tree.get(number)]
        self.assertEqual(index.follow(tree), tuple(unlike))
        self.tells(index, tree, schema)

    def test_follow(self):
        self.follows(self.index, self.tree)
        self.assertEqual(self.index.follow(self.tree), ())
        backward = {number: self.tree[number] for number in sorted(self.tree, reverse=True)}
        self.assertEqual(self.index.follow(backward), ())
        moved = dict(self.tree)
        moved[2] = (5, *self.tree[2][1:])
        # Just the moved entry is unlike, but what is asked of all beneath it follows.
        self.assertEqual(self.index.follow(moved), (2,))
        self.assertEqual(self.answers(self.index, moved, ("within", 5)), ((2, 5, 10, 20, 30), (1,)))
        self.follows(self.index, {})
        self.follows(self.index, self.tree)
        del moved[20]
        moved[30] = entry(2, "cn", "cy", ("worker",), ("age", "8"))
        moved[3] = entry(0, "cn", "new", ("unit",), ("mark", "5"))
        self.assertEqual(self.index.follow(moved), (2, 3, 20, 30))
        self.tells(self.index, moved)

    def test_a_text_with_the_same_form(self):
        tree = {**self.tree, 10: (2, ("cn", "ann"), ("human",), (("cn", "ann", "ANN"), ("mail", "A@x", "A@x")))}
        self.assertEqual(self.index.follow(tree), (10,))
        self.tells(self.index, tree)

    def test_many_follows(self):
        schema = asking_schema()
        for seed in range(5):
            tree = some_tree(f"follow {seed}", schema, 14)
            index = Index(schema, tree)
            filters = some_filters(f"follow {seed}", 8)
            for at in range(6):
                tree = changed_tree(f"{seed} {at}", schema, tree)
                self.follows(index, tree, schema)
                fresh = Index(schema, tree)
                for asked in filters:
                    self.assertEqual(index.sets(asked), fresh.sets(asked))
                    self.answers(index, tree, asked, schema)

    def test_twin(self):
        leaf = ("pieces", "cn", "o", (), "")
        self.index.sets(leaf)
        twin = self.index.twin()
        self.assertIsInstance(twin, Index)
        self.assertEqual((twin.entries(), twin.looked), (self.tree, 0))
        self.tells(twin, self.tree)
        twin.follow({})
        self.tells(self.index, self.tree)
        self.tells(twin, {})
        other = self.index.twin()
        self.index.follow({5: self.tree[5]})
        self.tells(other, self.tree)
        self.answers(other, self.tree, leaf)
        self.tells(self.index, {5: self.tree[5]})

    def test_nothing_gives_access(self):
        tree = sample_tree()
        index = Index(self.schema, tree)
        tree.clear()
        index.entries().clear()
        self.tells(index, self.tree)
        tree = sample_tree()
        index.follow(tree)
        tree[5] = None
        self.tells(index, self.tree)

    def test_wrong_arguments(self):
        self.refuses_each(Index, [self.schema, self.tree], [(0, InvalidSchema, is_schema), (1, InvalidTree, is_empty_dict)])
        loose = {1: entry(0, "cn", "a", ("unit",), ("boss", "2"))}
        self.refuses(InvalidTree, Index, self.schema, loose)
        self.refuses(InvalidTree, Index, Schema((), ()), self.tree)
        before = state_of(self.index)
        for value in wrong_filters():
            self.refuses(InvalidFilter, self.index.sets, value)
        for value in [*wrong_values(), loose, {True: self.tree[5]}]:
            if not is_empty_dict(value):
                self.refuses(InvalidTree, self.index.follow, value)
        self.refuses_each(self.index.sets, [EVERYTHING], [(0, InvalidFilter, never)])
        self.refuses_each(self.index.with_form, ["cn", "one"], [
            (0, InvalidWord, is_some_word), (1, InvalidText, lambda value: isinstance(value, str) and is_form_text(value))])
        self.refuses_each(self.index.with_gram, ["cn", "one"], [(0, InvalidWord, is_some_word), (1, InvalidText, never)])
        self.refuses_each(self.index.ordered, ["cn"], [(0, InvalidWord, is_some_word)])
        for word in ("none", "ok", "boss", "pal", "to", "human"):
            self.refuses(InvalidOperation, self.index.ordered, word)
        for gram in ("ab", "abcd", "", "a\n", "\t\n\n", "ab\x7f", ("a", "b", "c"), ["a", "b", "c"], "\u00e4bc"):
            self.assertEqual(self.refuses(InvalidText, self.index.with_gram, "cn", gram).value, gram)
        for gram in ("\n\n\n", "a\nb", "   ", "~~~"):
            self.assertEqual(self.index.with_gram("cn", gram), ())
        self.assertEqual(state_of(self.index), before)
        self.tells(self.index, self.tree)

    def test_other(self):
        self.cannot_iterate(self.index)
        self.equals_itself_alone(self.index, self.index, [self.schema, self.tree])


def is_form_text(value):
    """Whether a wrong value is a text all the same."""
    return 1 <= len(value) <= 100 and "\n" not in value
