"""Tests of bailiwick.tree.links."""

from bailiwick.errors import InvalidOperation, InvalidSchema, InvalidTree, InvalidWord, Refused, UnknownNumber
from bailiwick.tree.links import link_names, links_from, links_to, loose_links, removed, without_links
from bailiwick.tree.trees import is_tree
from tests.samples import Tests, entry, is_empty_dict, is_schema, sample_schema, sample_tree
from tests.test_trees import chain_tree, full_entry, wide_tree, wrong_entries
from tests.test_types import is_some_word


def is_one(value):
    """Whether a wrong value is the number 1 all the same."""
    return value == 1 and not isinstance(value, bool)


def linked_tree():
    """A tree with many links, also of entries to themselves, and numbers whose texts do not ascend."""
    return {
        9: entry(0, "cn", "i", ("human",), ("boss", "9"), ("boss", "10"), ("mail", "10"), ("mark", "10")),
        10: entry(9, "cn", "j", ("human",), ("boss", "9"), ("pal", "100"), ("pal", "9"), ("pal", "10")),
        100: (9, ("cn", "k"), ("human",), (("cn", "k", "K"),)),
    }


class LinkTests(Tests):
    """Links [8.1]."""

    def setUp(self):
        self.schema = sample_schema()
        self.tree = linked_tree()

    def test_links_to(self):
        told = {number: links_to(self.schema, self.tree, number) for number in self.tree}
        self.assertEqual(told, {
            9: ((9, "boss"), (10, "boss"), (10, "pal")), 10: ((9, "boss"), (10, "pal")), 100: ((10, "pal"),)})
        self.assertEqual(links_to(self.schema, sample_tree(), 1), ())
        backward = {number: self.tree[number] for number in (100, 10, 9)}
        self.assertEqual(links_to(self.schema, backward, 9), ((9, "boss"), (10, "boss"), (10, "pal")))

    def test_links_from(self):
        told = {number: links_from(self.schema, self.tree, number) for number in self.tree}
        self.assertEqual(told, {
            9: (("boss", 9), ("boss", 10)), 10: (("boss", 9), ("pal", 9), ("pal", 10), ("pal", 100)), 100: ()})

    def test_link_names(self):
        nine, ten = (("cn", "i"),), (("cn", "j"), ("cn", "i"))
        self.assertEqual(link_names(self.schema, self.tree, 10, "pal"), (nine, ten, (("cn", "K"), ("cn", "i"))))
        self.assertEqual(link_names(self.schema, self.tree, 9, "boss"), (nine, ten))
        # The type itself is asked, not its reach.
        self.assertEqual(link_names(self.schema, self.tree, 10, "boss"), (nine,))
        self.assertEqual(link_names(self.schema, self.tree, 100, "boss"), ())
        self.assertEqual(link_names(self.schema, self.tree, 9, "to"), ())
        for word in ("mail", "mark", "cn", "label", "x"):
            self.refuses(InvalidOperation, link_names, self.schema, self.tree, 10, word)

    def test_wrong_arguments(self):
        tree = sample_tree()
        for call in (links_to, links_from):
            self.refuses_each(call, [self.schema, tree, 1], [
                (0, InvalidSchema, is_schema), (1, InvalidTree, is_empty_dict), (2, UnknownNumber, is_one)])
        self.refuses_each(link_names, [self.schema, tree, 1, "boss"], [
            (0, InvalidSchema, is_schema), (1, InvalidTree, is_empty_dict), (2, UnknownNumber, is_one),
            (3, InvalidWord, is_some_word)])
        loose = {1: entry(0, "cn", "a", ("unit",), ("boss", "2"))}
        for call in (links_to, links_from, without_links, removed):
            self.refuses(InvalidTree, call, self.schema, loose, 1)
        self.refuses(InvalidTree, link_names, self.schema, loose, 1, "boss")


class LooseLinkTests(Tests):
    """Loose links [8.2]."""

    def setUp(self):
        self.schema = sample_schema()

    def test_loose_links(self):
        entries = {
            20: entry(77, "cn", "a", ("unit",), ("pal", "9"), ("pal", "10"), ("boss", "100"), ("boss", "3")),
            3: entry(20, "cn", "a", ("x",), ("to", "3"), ("to", "4"), ("mark", "5"), ("mail", "6")),
        }
        self.assertEqual(loose_links(self.schema, entries), ((3, "to", 4), (20, "boss", 100), (20, "pal", 9), (20, "pal", 10)))
        self.assertEqual(loose_links(self.schema, {}), ())
        self.assertEqual(loose_links(self.schema, linked_tree()), ())
        tree = linked_tree()
        del tree[100]
        self.assertEqual(loose_links(self.schema, tree), ((10, "pal", 100),))

    def test_entries_need_be_no_tree(self):
        odd = {1: (1, ("cn", "a"), ("x",), (("mail", "b", "b"),)), 2: (1, ("cn", "a"), ("x",), (("to", "1", "1"),))}
        self.assertEqual(loose_links(self.schema, odd), ())
        self.assertEqual(loose_links(self.schema, wide_tree(60)), ())
        self.assertEqual(loose_links(self.schema, chain_tree(12)), ())

    def test_wrong_arguments(self):
        self.refuses_each(loose_links, [self.schema, {}], [(0, InvalidSchema, is_schema), (1, InvalidTree, is_empty_dict)])
        for each in wrong_entries():
            self.refuses(InvalidTree, loose_links, self.schema, {1: each})
        one = entry(0, "cn", "a", ("unit",))
        for wrong in (wide_tree(61), {1: full_entry(61)}, {0: one}, {True: one}, {"1": one}, {10 ** 12 + 1: one},
                      {1: entry(0, "cn", "A", ("unit",))}, {1: entry(0, "x", "a", ("unit",))},
                      {1: entry(0, "boss", "1", ("unit",))}):
            self.refuses(InvalidTree, loose_links, self.schema, wrong)


class RemovalTests(Tests):
    """Trees without links to an entry, and without the entry [8.1]."""

    def setUp(self):
        self.schema = sample_schema()

    def test_without_links(self):
        tree = linked_tree()
        told = without_links(self.schema, tree, 9)
        self.assertEqual(told, {
            9: entry(0, "cn", "i", ("human",), ("boss", "10"), ("mail", "10"), ("mark", "10")),
            10: entry(9, "cn", "j", ("human",), ("pal", "100"), ("pal", "10")), 100: tree[100]})
        self.assertEqual(tree, linked_tree())
        told = without_links(self.schema, tree, 10)
        self.assertEqual(told[9][3], (("boss", "9", "9"), ("cn", "i", "i"), ("mail", "10", "10"), ("mark", "10", "10")))
        for number in tree:
            self.assertEqual(links_to(self.schema, without_links(self.schema, tree, number), number), ())

    def test_removed(self):
        tree = linked_tree()
        told = removed(self.schema, tree, 100)
        self.assertEqual(told, {9: tree[9], 10: entry(9, "cn", "j", ("human",), ("boss", "9"), ("pal", "9"), ("pal", "10"))})
        self.assertTrue(is_tree(self.schema, told))
        self.assertEqual(tree, linked_tree())
        self.assertEqual(removed(self.schema, {3: (0, *tree[100][1:])}, 3), {})
        self.assertEqual(self.refuses(Refused, removed, self.schema, tree, 9).reason, "beneath")
        self.assertEqual(self.refuses(Refused, removed, self.schema, sample_tree(), 2).reason, "beneath")

    def test_keys_ascend_and_are_new(self):
        tree = {number: linked_tree()[number] for number in (100, 10, 9)}
        for call in (without_links, removed):
            told = call(self.schema, tree, 100)
            self.assertEqual(list(told), sorted(told))
            self.assertIsNot(told, tree)
            told.clear()
            self.assertEqual(list(tree), [100, 10, 9])

    def test_wrong_arguments(self):
        for call in (without_links, removed):
            self.refuses_each(call, [self.schema, sample_tree(), 5], [
                (0, InvalidSchema, is_schema), (1, InvalidTree, is_empty_dict), (2, UnknownNumber, is_one)])
        self.assertEqual(self.refuses(UnknownNumber, removed, self.schema, sample_tree(), 0).asked, 0)
