"""Writers: each keeps letters, in whatever order it hears them, and stands at their fold."""

from bailiwick.base.words import need_word
from bailiwick.errors import InvalidLetter, Refused, TooMany, UnknownName
from bailiwick.many.letters import (
    MAX_COUNT, MAX_MADE, does_join, first_state, is_letter, known_horizon, known_stamp, need_names, need_right_tree,
    next_state,
)
from bailiwick.place.rights import need_who
from bailiwick.tree.units import need_unit

MAX_LETTERS = 120


class Writer:
    """A writer: its names, its letters, and the states ahead of each unit and behind the last one.

    `_units` are the letters of units by their stamps, `_quiets` the others; `_outcomes` are the fates of the units.
    """

    def __init__(self, name, names, schema, tree=None):
        need_word(name)
        need_names(names)
        whole = {} if tree is None else tree
        need_right_tree(schema, whole)
        if name not in names:
            raise UnknownName(name)
        self._name = name
        self._names = names
        self._schema = schema
        self._units = []
        self._quiets = []
        self._outcomes = []
        self._states = [first_state(whole)]
        self._bound = known_horizon(names, ())

    @property
    def name(self):
        """Its own name."""
        return self._name

    @property
    def names(self):
        """The names of all writers."""
        return self._names

    @property
    def letters(self):
        """All letters that it keeps: the units by their stamps, and behind them the quiet ones."""
        return (*self._units, *self._quiets)

    @property
    def tree(self):
        """The tree behind all units."""
        return dict(self._states[-1][0])

    @property
    def fates(self):
        """The fates of all units, by their stamps."""
        return {known_stamp(letter): fate for letter, fate in zip(self._units, self._outcomes)}

    @property
    def horizon(self):
        """The least pair (count, name) that the stamp of a unit still to come can have."""
        return self._bound

    @property
    def settled(self):
        """The stamps that are settled, ascending."""
        return tuple([known_stamp(letter) for letter in self._units if known_stamp(letter) < self._bound])

    @property
    def settled_tree(self):
        """The tree behind the settled units alone."""
        many = len([letter for letter in self._units if known_stamp(letter) < self._bound])
        return dict(self._states[many][0])

    def __eq__(self, other):
        return (isinstance(other, Writer) and self._name == other._name and self._names == other._names
                and self._schema == other._schema and self._states[0] == other._states[0]
                and self._units == other._units and self._quiets == other._quiets)

    def make(self, who, unit):
        """Makes a unit: returns its letter, or its fate if it falls."""
        need_who(self._states[-1][0], who)
        need_unit(unit)
        made = self._many_made()
        count = self._greatest_count() + 1
        if made == MAX_MADE:
            raise TooMany(MAX_MADE)
        self._need_room()
        if count > MAX_COUNT:
            raise TooMany(MAX_COUNT)
        letter = ("deed", self._name, made + 1, count, who, unit)
        _, fate = next_state(self._schema, self._states[-1], letter)
        if fate[0] == "fallen":
            return fate
        self._keep(letter)
        return letter

    def quiet(self):
        """Tells, and keeps, that no further unit has a count up to the greatest one that is kept."""
        letter = ("quiet", self._name, self._many_made(), self._greatest_count())
        if letter not in self._quiets:
            self._need_room()
            self._keep(letter)
        return letter

    def hear(self, letter):
        """Keeps a letter, and returns the triples (stamp, elder fate, newer fate) of what has another fate then."""
        if not is_letter(letter):
            raise InvalidLetter(letter)
        if letter[1] not in self._names:
            raise UnknownName(letter[1])
        kept = self._units + self._quiets
        if letter in kept:
            return ()
        if letter[1] == self._name:
            raise Refused("own")
        if not does_join(kept, letter):
            raise Refused("unlike")
        self._need_room()
        elder = self.fates
        self._keep(letter)
        newer = self.fates
        return tuple([(stamp, elder.get(stamp), newer[stamp]) for stamp in newer
                      if elder.get(stamp) != newer[stamp]])

    def free_number(self):
        """The least number of its own that the first tree and no add of a kept letter has."""
        taken = {number: True for number in self._states[0][0]}
        for letter in self._units:
            for deed in letter[5]:
                if deed[0] == "add":
                    taken[deed[1]] = True
        many = len(self._names)
        number = self._names.index(self._name)
        while number == 0 or number in taken:
            number += many
        return number

    def twin(self):
        """An independent writer with the same name and letters."""
        other = Writer(self._name, self._names, self._schema, self._states[0][0])
        other._units = list(self._units)
        other._quiets = list(self._quiets)
        other._outcomes = list(self._outcomes)
        other._states = list(self._states)
        other._bound = self._bound
        return other

    def _many_made(self):
        """How many units it has made."""
        return len([letter for letter in self._units if letter[1] == self._name])

    def _greatest_count(self):
        """The greatest count of all letters that it keeps, 0 without any."""
        return max([letter[3] for letter in self._units + self._quiets], default=0)

    def _need_room(self):
        """Refuses one letter more than can be kept."""
        if len(self._units) + len(self._quiets) == MAX_LETTERS:
            raise TooMany(MAX_LETTERS)

    def _keep(self, letter):
        """Keeps a letter that goes together with those that are kept."""
        if letter[0] == "deed":
            self._weave(letter)
        else:
            self._quiets = sorted([*self._quiets, letter])
        self._bound = known_horizon(self._names, self._units + self._quiets)

    def _weave(self, letter):
        """Puts a unit at the place of its stamp, and does it and all units behind it anew."""
        at = len([each for each in self._units if known_stamp(each) < known_stamp(letter)])
        self._units.insert(at, letter)
        del self._states[at + 1:]
        del self._outcomes[at:]
        for each in self._units[at:]:
            state, fate = next_state(self._schema, self._states[-1], each)
            self._states.append(state)
            self._outcomes.append(fate)
