"""Tests of bailiwick.place.shares."""

import random

from bailiwick.errors import InvalidSchema, InvalidTree, UnknownNumber
from bailiwick.place.shares import givers, shared, shown
from bailiwick.rules.judge import is_right
from bailiwick.rules.schemas import Class, Schema
from bailiwick.rules.types import Type, house_types
from bailiwick.tree.trees import is_tree
from tests.makers import asking_schema, some_tree
from tests.samples import Tests, entry, is_empty_dict, is_schema, sample_schema
from tests.test_areas import plain_areas, plain_in_area, ruling
from tests.test_links import is_one

HOUSE = [each.name for each in house_types()]


def sharing_schema():
    """A schema whose types stand beneath one another, and may be borne here and there."""
    return Schema(
        (Type("cn", "text"), Type("nick", "text", "cn"), Type("pet", "text", "nick"), Type("mail", "exact"),
         Type("mark", "number"), Type("code", "exact", single=True), Type("boss", "link")),
        (Class("unit", "shape", must=("cn",), may=("mail", "nick"), named=("cn",), places=("", "unit")),
         Class("human", "shape", must=("cn",), may=("boss", "code", "mark"), named=("cn",), places=("human", "unit"), lets=("vip",)),
         Class("vip", "extra", must=("mail",))),
    )


def share(above, text, *pairs):
    """A share with some values."""
    return ruling("share", above, text, *pairs)


def plain_gifts(schema, tree, number):
    """What an entry gets, as a dict from pairs (type, form) to pairs (share, text), told as the document tells it."""
    above, naming, classes, values = tree[number]
    own = {(word, form) for word, form, text in values}
    let = {*schema.must_bear(classes), *schema.may_bear(classes)}
    barred = {text for word, form, text in values if word == "unshared"}
    offers = []
    for each in plain_areas(schema, tree):
        if "share" not in tree[each][2] or not plain_in_area(schema, tree, number, each):
            continue
        for word, form, text in tree[each][3]:
            names = [name.name for name in schema.types if word in schema.reach(name.name)]
            if word not in HOUSE and word in let and not barred & set(names) and (word, form) not in own:
                offers.append((each, word, form, text))
    gifts = {}
    for each, word, form, text in sorted(offers):
        if (word, form) not in gifts and len(own) + len(gifts) < 60:
            gifts[(word, form)] = (each, text)
    return gifts


class ShareTests(Tests):
    """Shared values [18.1, 18.2, 18.3]."""

    def setUp(self):
        self.schema = sharing_schema()
        self.tree = {
            1: entry(0, "cn", "a", ("unit",)), 2: entry(1, "cn", "b", ("unit",)), 3: entry(2, "cn", "c", ("human",)),
            4: entry(0, "cn", "d", ("unit",)), 5: entry(2, "cn", "e", ("human", "vip"), ("mail", "e@x")),
        }

    def gets(self, tree, told, schema=None):
        """Tests which values entries get from which shares: a dict from numbers to rows (share, type, form, text)."""
        schema = schema or self.schema
        before = repr(tree)
        for number in tree:
            rows = sorted(told.get(number, []))
            values = tuple(sorted([row[1:] for row in rows]))
            self.assertEqual(shared(schema, tree, number), values, number)
            found = givers(schema, tree, number)
            self.assertEqual(found, {row[1:3]: row[0] for row in rows})
            self.assertEqual(list(found), sorted(found))
            self.assertEqual(found, {key: gift[0] for key, gift in plain_gifts(schema, tree, number).items()})
        whole = shown(schema, tree)
        self.assertEqual(list(whole), sorted(tree))
        for number in tree:
            values = tuple(sorted([*tree[number][3], *[row[1:] for row in told.get(number, [])]]))
            self.assertEqual(whole[number], (*tree[number][:3], values))
        self.assertTrue(is_tree(schema, whole))
        self.assertEqual(repr(tree), before)

    def test_without_shares(self):
        self.gets(self.tree, {})
        self.gets({}, {})
        self.assertEqual(shown(self.schema, {}), {})

    def test_what_is_let(self):
        # Each type itself must be let by the entry's own classes; what is above or beneath it does not matter.
        self.tree[50] = share(1, "s", ("mail", "M@x"), ("cn", "x"), ("nick", "y"), ("pet", "z"), ("mark", "5"), ("boss", "4"))
        unit = [(50, "cn", "x", "x"), (50, "mail", "M@x", "M@x"), (50, "nick", "y", "y")]
        human = [(50, "cn", "x", "x"), (50, "mark", "5", "5"), (50, "boss", "4", "4")]
        self.gets(self.tree, {1: unit, 2: unit, 3: human, 5: [*human, (50, "mail", "M@x", "M@x")]})
        self.assertTrue(is_right(self.schema, self.tree))

    def test_areas(self):
        for values, numbers in (((), (1, 2)), ((("least", "1"),), (2,)), ((("most", "0"),), (1,)), ((("without", "2"),), (1,)),
                                ((("of", "human"),), ()), ((("of", "unit"), ("without", "1")), (1, 2))):
            tree = {**self.tree, 50: share(1, "s", ("nick", "x"), *values)}
            self.gets(tree, {number: [(50, "nick", "x", "x")] for number in numbers})
        tree = {**self.tree, 50: share(0, "s", ("nick", "x"))}
        self.gets(tree, {number: [(50, "nick", "x", "x")] for number in (1, 2, 4)})

    def test_types_of_the_house_are_not_given(self):
        schema = Schema((Type("cn", "text"),), (
            Class("unit", "shape", must=("cn",), may=tuple(sorted(HOUSE)), named=("cn",), places=("",)),))
        values = [("label", "s"), ("member", "1"), ("chosen", "x"), ("unshared", "y"), ("may", "see"), ("what", "all"), ("who", "anyone"),
                  ("least", "0"), ("most", "9"), ("rank", "1"), ("grants", "yes"), ("below", "no"), ("to", "1"), ("ground", "1"),
                  ("whom", "1"), ("without", "50"), ("of", "unit")]
        self.assertEqual(sorted(word for word, text in values), sorted(HOUSE))
        tree = {1: entry(0, "cn", "a", ("unit",)), 50: entry(0, "cn", "x", ("share",), *values)}
        self.gets(tree, {1: [(50, "cn", "x", "x")]}, schema)

    def test_own_values(self):
        # An own value with the same type and form stays; one of another type or form does not matter.
        self.tree[1] = (0, ("cn", "a"), ("unit",), (("cn", "a", "A"), ("mail", "a", "a"), ("nick", "b c", "B  C")))
        self.tree[50] = share(1, "s", ("mail", "A"), ("mail", "a"), ("cn", "b c"))
        self.tree[50] = (*self.tree[50][:3], tuple(sorted([*self.tree[50][3], ("nick", "b c", "b c"), ("cn", "a", " a")])))
        self.gets(self.tree, {
            1: [(50, "mail", "A", "A"), (50, "cn", "b c", "b c")],
            2: [(50, "cn", "a", " a"), (50, "cn", "b c", "b c"), (50, "mail", "A", "A"), (50, "mail", "a", "a"), (50, "nick", "b c", "b c")],
            3: [(50, "cn", "a", " a"), (50, "cn", "b c", "b c")],
            5: [(50, "cn", "a", " a"), (50, "cn", "b c", "b c"), (50, "mail", "A", "A"), (50, "mail", "a", "a")]})

    def test_several_shares(self):
        # The least number gives the text, wherever the shares stand.
        self.tree[60] = (2, ("label", "s"), ("share",), (("label", "s", "s"), ("nick", "x y", "X Y"), ("nick", "z", "z")))
        self.tree[50] = (1, ("label", "t"), ("share",), (("label", "t", "t"), ("nick", "x y", "x  y")))
        self.tree[55] = (0, ("label", "u"), ("share",), (("label", "u", "u"), ("nick", "w", "W"), ("nick", "x y", "X y")))
        self.gets(self.tree, {
            1: [(50, "nick", "x y", "x  y"), (55, "nick", "w", "W")], 4: [(55, "nick", "x y", "X y"), (55, "nick", "w", "W")],
            2: [(50, "nick", "x y", "x  y"), (55, "nick", "w", "W"), (60, "nick", "z", "z")],
            50: [(55, "nick", "w", "W")], 60: [(55, "nick", "w", "W")]})
        del self.tree[50]
        self.gets(self.tree, {
            number: [(55, "nick", "x y", "X y"), (55, "nick", "w", "W"), *more]
            for number, more in ((1, []), (4, []), (2, [(60, "nick", "z", "z")]))} | {60: [(55, "nick", "w", "W")]})

    def test_unshared(self):
        self.tree[50] = share(1, "s", ("nick", "x"), ("mail", "m"), ("cn", "y"))
        every = [(50, "cn", "y", "y"), (50, "mail", "m", "m"), (50, "nick", "x", "x")]
        mail = [(50, "mail", "m", "m")]
        for names, rows in ((("nick",), [every[0], every[1]]), (("cn",), mail), (("mail",), [every[0], every[2]]), (("pet",), every),
                            (("mail", "nick"), [every[0]]), (("Nick",), every), (("a b",), every), (("none",), every), (("label",), every),
                            (("cn", "mail"), []), (("unit", "nick "), every)):
            tree = {**self.tree, 1: entry(0, "cn", "a", ("apart", "unit"), *[("unshared", name) for name in names])}
            self.gets(tree, {1: rows, 2: every, 3: [every[0]], 5: [every[0], every[1]]})
        # The entry's own values count alone: neither those above it nor those of the share.
        tree = {**self.tree, 50: entry(1, "label", "s", ("apart", "share"), ("nick", "x"), ("unshared", "nick"))}
        self.gets(tree, {1: [(50, "nick", "x", "x")], 2: [(50, "nick", "x", "x")]})

    def test_shares_get_values(self):
        # A share gets what another one gives, and gives on just its own; its own values it does not get.
        self.tree[50] = share(1, "s", ("nick", "x"))
        self.tree[60] = share(2, "t", ("mail", "m"))
        told = {1: [(50, "nick", "x", "x")], 2: [(50, "nick", "x", "x"), (60, "mail", "m", "m")], 5: [(60, "mail", "m", "m")],
                60: [(50, "nick", "x", "x")]}
        self.gets(self.tree, told)
        # A share beneath the other one, in whose area that one does not lie.
        self.tree[70] = share(60, "v", ("nick", "z"))
        told[70] = [(50, "nick", "x", "x"), (60, "mail", "m", "m")]
        told[60] = [(50, "nick", "x", "x"), (70, "nick", "z", "z")]
        self.gets(self.tree, told)

    def test_shares_that_are_not_right(self):
        # A share gives its own values, whether the rules let it have them or not, single ones too.
        self.tree[50] = entry(1, "label", "s", ("group", "share"), ("code", "c"), ("code", "d"))
        self.gets(self.tree, {number: [(50, "code", "c", "c"), (50, "code", "d", "d")] for number in (3, 5)})
        self.tree[50] = entry(1, "label", "s", ("group",), ("code", "c"))
        self.gets(self.tree, {})
        self.tree[50] = entry(1, "label", "s", ("rule",), ("code", "c"))
        self.gets(self.tree, {})

    def test_sixty_values(self):
        own = [("nick", f"n{at}") for at in range(56)]
        gifts = [("nick", f"n{at}") for at in range(50, 62)]
        self.tree[1] = entry(0, "cn", "a", ("unit",), *own)
        self.tree[60] = share(0, "s", ("mail", "m"), *gifts)
        self.tree[50] = share(0, "t", ("nick", "zz"), ("nick", "n61"))
        fifty = [(50, "nick", "n61", "n61"), (50, "nick", "zz", "zz")]
        sixty = [(60, "mail", "m", "m"), *[(60, *[word, text, text]) for word, text in gifts[:11]]]
        # Of sixty in all, 57 are its own: it gets those of share 50, and then the first one of share 60.
        self.gets(self.tree, {1: [*fifty, (60, "mail", "m", "m")], 2: fifty + sixty, 4: fifty + sixty, 5: [(60, "mail", "m", "m")],
                              60: fifty[1:], 50: sixty})
        for many in (58, 59):
            tree = {**self.tree, 1: entry(0, "cn", "a", ("unit",), *[("nick", f"n{at}") for at in range(many)])}
            told = {2: fifty + sixty, 4: fifty + sixty, 5: [(60, "mail", "m", "m")], 60: fifty[1:], 50: sixty}
            self.gets(tree, {**told, 1: fifty[:60 - many - 1]})
        tree = {**self.tree, 1: entry(0, "cn", "a", ("unit",), *[("nick", f"n{at}") for at in range(57)])}
        self.gets(tree, {**told, 1: fifty})

    def test_what_is_shown(self):
        # Shared values change nothing else: neither areas nor what is given, nor names.
        self.tree[50] = share(0, "s", ("cn", "x"))
        whole = shown(self.schema, self.tree)
        self.assertEqual(whole[1], (0, ("cn", "a"), ("unit",), (("cn", "a", "a"), ("cn", "x", "x"))))
        self.assertEqual(shown(self.schema, whole), whole)
        whole.clear()
        self.assertEqual(len(shown(self.schema, self.tree)), 6)

    def test_many_trees(self):
        schema = asking_schema()
        many = 0
        for seed in range(40):
            rng = random.Random(f"shares {seed}")
            tree = some_tree(f"shares {seed}", schema, 14, 8)
            for number in rng.sample(sorted(tree), 4):
                above, naming, classes, values = tree[number]
                tree[number] = (above, naming, ("share",), tuple([
                    value for value in values if value[0] not in ("least", "most", "without", "of") or rng.randrange(8) == 0]))
            told = {number: [(gift[0], *key, gift[1]) for key, gift in plain_gifts(schema, tree, number).items()] for number in tree}
            many += sum(len(rows) for rows in told.values())
            self.gets(tree, told, schema)
        self.assertGreater(many, 500)

    def test_wrong_arguments(self):
        right = [(0, InvalidSchema, is_schema), (1, InvalidTree, is_empty_dict)]
        for call in (shared, givers):
            self.refuses_each(call, [self.schema, self.tree, 1], [*right, (2, UnknownNumber, is_one)])
            for number in (0, 77, True, "1", None):
                self.assertIs(self.refuses(UnknownNumber, call, self.schema, self.tree, number).asked, number)
        self.refuses_each(shown, [self.schema, self.tree], right)
        loose = {1: entry(0, "cn", "a", ("unit",), ("boss", "2"))}
        for call in (shared, givers):
            self.refuses(InvalidTree, call, self.schema, loose, 77)
        self.refuses(InvalidTree, shown, self.schema, loose)
        self.refuses(InvalidTree, shown, sample_schema(), {1: entry(0, "none", "a", ("unit",))})
