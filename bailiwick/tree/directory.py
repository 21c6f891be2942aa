"""A directory: a tree on which units are done and undone, with its history."""

from bailiwick.base.words import is_whole
from bailiwick.errors import InvalidNumber, InvalidTree, Refused, TooMany
from bailiwick.rules.judge import is_right
from bailiwick.tree.units import need_unit, outcome_of

MAX_PLACES = 1000


class Directory:
    """A tree, and all trees of its history.

    `_trees` and `_units` reach up to the last place that can be redone. `_steps` counts what was done, undone
    and redone, so that it never comes back to where it was.
    """

    def __init__(self, schema, tree=None):
        first = {} if tree is None else tree
        # This refuses what is no schema, too.
        if not is_right(schema, first):
            raise InvalidTree(tree)
        self._schema = schema
        self._trees = [{number: first[number] for number in sorted(first)}]
        self._units = []
        self._place = 0
        self._used = {number: True for number in first}
        self._steps = 0
        self._since = {number: 0 for number in self._trees[0]}

    @property
    def schema(self):
        """The rules of the directory."""
        return self._schema

    @property
    def tree(self):
        """The tree now."""
        return dict(self._trees[self._place])

    @property
    def place(self):
        """How many units were done and not undone."""
        return self._place

    @property
    def used(self):
        """The numbers that any tree of the directory ever had, ascending."""
        return tuple(sorted(self._used))

    @property
    def since(self):
        """The dict from the numbers of the entries now to the steps since which each is there without a break."""
        return dict(self._since)

    def do(self, unit):
        """Does a unit: tells its place, or how it falls."""
        need_unit(unit)
        if self._place == MAX_PLACES:
            raise TooMany(MAX_PLACES)
        told, _ = outcome_of(self._schema, self._trees[self._place], unit, self._used)
        if told[0] == "fallen":
            return told
        del self._trees[self._place + 1:]
        del self._units[self._place:]
        self._trees.append(told[1])
        self._units.append(unit)
        for number in told[1]:
            self._used[number] = True
        return ("done", self._step_to(self._place + 1))

    def undo(self):
        """Goes back to the tree ahead of the last unit, and returns the place."""
        if self._place == 0:
            raise Refused("undo")
        return self._step_to(self._place - 1)

    def redo(self):
        """Goes ahead again to the tree behind the last unit that was undone, and returns the place."""
        if self._place == len(self._units):
            raise Refused("redo")
        return self._step_to(self._place + 1)

    def _step_to(self, place):
        """Makes the tree of a place the tree now, and returns the place."""
        self._steps += 1
        # An entry that comes back is there since now, so that who saw it before can tell that it was gone.
        self._since = {number: self._since.get(number, self._steps) for number in self._trees[place]}
        self._place = place
        return place

    def tree_at(self, place):
        """The tree at a place."""
        if not is_whole(place) or not 0 <= place < len(self._trees):
            raise InvalidNumber(place)
        return dict(self._trees[place])

    def units(self):
        """The units that were done and not undone."""
        return tuple(self._units[:self._place])
