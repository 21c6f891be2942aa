"""Holdings: the parts of a tree, and the servers that hold them."""

from bailiwick.ask.search import Search, known_found, known_rows
from bailiwick.base.words import are_pairs, is_whole, is_word
from bailiwick.errors import InvalidName, InvalidOperation
from bailiwick.tree.trees import asked_form, known_name, naming_text, need_number, need_tree, upward_numbers

MAX_SERVERS = 20


def _is_known_plan(tree, value):
    """Whether the value is a plan for a known tree."""
    if not isinstance(value, dict) or not all([is_whole(root) and is_word(value[root]) for root in value]):
        return False
    if 0 not in value or not all([root == 0 or root in tree for root in value]):
        return False
    return len({value[root] for root in value}) <= MAX_SERVERS


def is_plan(schema, tree, value):
    """Whether the value is a plan for a tree."""
    need_tree(schema, tree)
    return _is_known_plan(tree, value)


def need_plan(schema, tree, plan):
    """Refuses what is no schema, no tree by it, or no plan for the tree."""
    need_tree(schema, tree)
    if not _is_known_plan(tree, plan):
        raise InvalidOperation(plan)


def _known_root(tree, plan, number):
    """The root to whose holding an entry belongs; 0 for the root itself."""
    for each in upward_numbers(tree, number):
        if each in plan:
            return each
    return 0


def root_of(schema, tree, plan, number):
    """The root to whose holding an entry belongs."""
    need_plan(schema, tree, plan)
    need_number(tree, number)
    return _known_root(tree, plan, number)


def _glimpse(entry):
    """An entry with its naming value alone."""
    above, naming, classes, values = entry
    return (above, naming, classes, tuple([value for value in values if value[:2] == naming]))


class Holding:
    """The entries that belong to a root, and what is known around them.

    `held` are its entries, `uppers` the glimpses of those above its root, `whole` both together. `branches` are
    the pairs of the glimpse and the server of its cuts, by their numbers.
    """

    def __init__(self, tree, plan, root):
        self.root = root
        self.held = {each: tree[each] for each in sorted(tree) if _known_root(tree, plan, each) == root}
        self.uppers = {each: _glimpse(tree[each]) for each in upward_numbers(tree, root)[1:]}
        self.whole = {**self.uppers, **self.held}
        self.branches = {}
        for cut in sorted(plan):
            if cut not in (0, root) and _known_root(tree, plan, tree[cut][0]) == root:
                self.branches[cut] = (_glimpse(tree[cut]), plan[cut])
        # The types and forms of the namings on the way to the root, its own first.
        self.way = [tree[each][1] for each in upward_numbers(tree, root)]

    def branch_at(self, above, key):
        """The number of the cut right beneath an entry, or the root, that has a naming; None if there is none."""
        found = [cut for cut in self.branches if self.branches[cut][0][:2] == (above, key)]
        return found[0] if found != [] else None

    def entry_at(self, above, key):
        """The number of its own entry right beneath another one, or the root, that has a naming, or None."""
        found = [number for number in self.held if self.held[number][:2] == (above, key)]
        return found[0] if found != [] else None

    def branches_in(self, scope, base):
        """The numbers of the cuts that a scope reaches from a base, ascending."""
        if scope == "base":
            return []
        if scope == "one":
            return [cut for cut in self.branches if self.branches[cut][0][0] == base]
        return [cut for cut in self.branches
                if base == 0 or base in upward_numbers(self.whole, self.branches[cut][0][0])]

    def branch_name(self, cut):
        """The name of a cut."""
        glimpse, _ = self.branches[cut]
        return ((glimpse[1][0], naming_text(glimpse)), *known_name(self.whole, glimpse[0]))


def is_question(value):
    """Whether the value is a search that servers are asked for."""
    if not isinstance(value, Search):
        return False
    return value.base == 0 and value.aliases == "never" and value.limit is None


class Server:
    """A server: its name, the server above it, and its holdings, ascending by their roots."""

    def __init__(self, schema, name, above, holdings):
        self._schema = schema
        self._name = name
        self._above = above
        self._holdings = holdings

    @property
    def name(self):
        """The name of the server."""
        return self._name

    @property
    def above(self):
        """The name of the server above, or None."""
        return self._above

    @property
    def roots(self):
        """The roots of its holdings, ascending."""
        return tuple([each.root for each in self._holdings])

    def entries(self):
        """The entries of all its holdings."""
        whole = {number: each.held[number] for each in self._holdings for number in each.held}
        return {number: whole[number] for number in sorted(whole)}

    def cuts(self):
        """The names of the servers of all its cuts, by the numbers of these."""
        whole = {cut: each.branches[cut][1] for each in self._holdings for cut in each.branches}
        return {cut: whole[cut] for cut in sorted(whole)}

    def glimpses(self):
        """All glimpses that it has, those of its own entries left aside."""
        whole = {}
        for each in self._holdings:
            for number in each.uppers:
                whole[number] = each.uppers[number]
            for cut in each.branches:
                whole[cut] = each.branches[cut][0]
        own = self.entries()
        return {number: whole[number] for number in sorted(whole) if number not in own}

    def ask(self, name, search):
        """Answers a question: a referral, what is missing, or what is found and who is asked for more."""
        if not are_pairs(name):
            raise InvalidName(name)
        if not is_question(search):
            raise InvalidOperation(search)
        keys = [(word, asked_form(self._schema, word, text)) for word, text in name]
        holding = self._holding_for(keys)
        if holding is None:
            return ("refer", self._above, name)
        at = holding.root
        for many in range(len(holding.way), len(keys)):
            key = keys[len(keys) - many - 1]
            cut = holding.branch_at(at, key)
            if cut is not None:
                return ("refer", holding.branches[cut][1], name)
            at = holding.entry_at(at, key)
            if at is None:
                return ("missing", many)
        return self._found(holding, search.at(at))

    def _holding_for(self, keys):
        """The holding whose root has the longest name that is the end of an asked one, or None."""
        rows = [(len(each.way), at) for at, each in enumerate(self._holdings)
                if keys[len(keys) - len(each.way):] == each.way]
        return self._holdings[max(rows)[1]] if rows != [] else None

    def _found(self, holding, search):
        """What a holding has for a search from one of its entries, or the root."""
        _, numbers = known_found(self._schema, holding.whole, search)
        scope = "base" if search.scope == "one" else "tree"
        more = [(holding.branches[cut][1], holding.branch_name(cut), scope)
                for cut in holding.branches_in(search.scope, search.base)]
        return ("found", known_rows(self._schema, holding.whole, search, numbers), tuple(more))


def _above_of(tree, plan, roots):
    """The name of the server above the one with some roots, or None."""
    top = min([(len(upward_numbers(tree, root)), root) for root in roots])[1]
    return None if top == 0 else plan[_known_root(tree, plan, tree[top][0])]


def known_cut(schema, tree, plan):
    """The servers of a known plan, by their names."""
    names = sorted({plan[root] for root in plan})
    servers = {}
    for name in names:
        roots = [root for root in sorted(plan) if plan[root] == name]
        holdings = [Holding(tree, plan, root) for root in roots]
        servers[name] = Server(schema, name, _above_of(tree, plan, roots), holdings)
    return servers


def cut_tree(schema, tree, plan):
    """The servers that hold a tree by a plan, by their names."""
    need_plan(schema, tree, plan)
    return known_cut(schema, tree, plan)
