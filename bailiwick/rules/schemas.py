"""Classes, and the schemas that types and classes make."""

from bailiwick.base.words import are_ascending_words, are_words, is_word, need_word
from bailiwick.errors import InvalidOperation, InvalidSchema, InvalidWord
from bailiwick.rules.faults import Draft, class_fault
from bailiwick.rules.house import HOUSE_EXTRA, house_rows
from bailiwick.rules.types import are_types, house_types, type_fault, upward_types
from bailiwick.rules.ways import all_above, holding_named, holding_places, shape_line, told_extras, with_above

FAMILIES = ("extra", "frame", "shape")
MAX_CLASSES = 12
MAX_DEEP = 5


def _are_places(value):
    """Whether the value is an ascending tuple of words, and perhaps of the root's word first."""
    if not isinstance(value, tuple):
        return False
    return are_ascending_words(value[1:] if value[:1] == ("",) else value)


class Class:
    """A class: its name, its family, what stands above it, and what it tells of its entries."""

    def __init__(self, name, family, above=(), *, must=(), may=(), named=(), places=(), lets=()):
        need_word(name)
        if family not in FAMILIES:
            raise InvalidOperation(family)
        for words in (above, must, may, named, lets):
            if not are_ascending_words(words):
                raise InvalidOperation(words)
        if not _are_places(places):
            raise InvalidOperation(places)
        self._name = name
        self._family = family
        self._above = above
        self._must = must
        self._may = may
        self._named = named
        self._places = places
        self._lets = lets

    @property
    def name(self):
        """The name of the class."""
        return self._name

    @property
    def family(self):
        """Extra, frame or shape."""
        return self._family

    @property
    def above(self):
        """The names of the classes directly above it."""
        return self._above

    @property
    def must(self):
        """The types that an entry of it must bear."""
        return self._must

    @property
    def may(self):
        """The types that an entry of it may bear."""
        return self._may

    @property
    def named(self):
        """The types by which an entry of the shape is named."""
        return self._named

    @property
    def places(self):
        """The shapes beneath which an entry of the shape can stand."""
        return self._places

    @property
    def lets(self):
        """The extras that the shape lets."""
        return self._lets

    def __eq__(self, other):
        return (isinstance(other, Class) and self._name == other._name and self._family == other._family
                and self._above == other._above and self._must == other._must and self._may == other._may
                and self._named == other._named and self._places == other._places and self._lets == other._lets)


def _house_classes(types, classes):
    """The classes of the house for types and classes that are not the house's."""
    shapes = [each.name for each in classes if each.family == "shape"]
    rows = house_rows(types, shapes)
    return [Class(name, family, must=must, may=may, named=named, places=places, lets=lets)
            for name, family, must, may, named, places, lets in rows]


def _by_name(rows):
    """The types or classes as a tuple that ascends by name."""
    table = {each.name: each for each in rows}
    return tuple([table[name] for name in sorted(table)])


def _reaches(types):
    """The names in the reach of each type, ascending, by the name of the type."""
    aboves = {each.name: each.above for each in types}
    reaches = {name: [] for name in aboves}
    for name in sorted(aboves):
        for upper in upward_types(aboves, name):
            reaches[upper].append(name)
    return reaches


def _shape_rows(table):
    """By the name of each shape: the types that name it, its places and the extras that it lets."""
    rows = {}
    extras = [name for name in table if table[name].family == "extra"]
    for shape in [name for name in table if table[name].family == "shape"]:
        told = told_extras(table, shape) + [HOUSE_EXTRA]
        lets = [name for name in extras if any([each in told for each in with_above(table, name)])]
        rows[shape] = (holding_named(table, shape), holding_places(table, shape), tuple(sorted(lets)))
    return rows


def _need_words(value):
    """Refuses what is no tuple of words."""
    if not are_words(value):
        raise InvalidOperation(value)


def _need_shape(value):
    """Refuses what is no word, and not the root's word either."""
    if value != "" and not is_word(value):
        raise InvalidWord(value)


class Schema:
    """The rules of a directory: types and classes, those of the house included."""

    def __init__(self, types, classes):
        fault = Schema.fault_of(types, classes)
        if fault is not None:
            raise InvalidSchema(fault)
        self._types = _by_name(types + house_types())
        self._classes = _by_name([*classes, *_house_classes(types, classes)])
        self._singles = {each.name: each.is_single for each in self._types}
        self._kinds = {each.name: each.kind for each in self._types}
        self._reaches = _reaches(self._types)
        self._table = {each.name: each for each in self._classes}
        self._uppers = {name: all_above(self._table, name) for name in self._table}
        self._shapes = _shape_rows(self._table)

    @classmethod
    def fault_of(cls, types, classes):
        """The first fault of types and classes that are not the house's, or None."""
        if not are_types(types):
            raise InvalidOperation(types)
        if not isinstance(classes, tuple) or not all([isinstance(each, Class) for each in classes]):
            raise InvalidOperation(classes)
        fault = type_fault(types)
        if fault is not None:
            return fault
        kinds = {each.name: each.kind for each in types + house_types()}
        return class_fault(Draft(classes, kinds, MAX_CLASSES, MAX_DEEP))

    @property
    def types(self):
        """All types, ascending by name."""
        return self._types

    @property
    def classes(self):
        """All classes, ascending by name."""
        return self._classes

    def __eq__(self, other):
        return isinstance(other, Schema) and self._types == other._types and self._classes == other._classes

    def kind_of(self, word):
        """The kind of a type, or None."""
        need_word(word)
        return self._kinds.get(word)

    def is_single_type(self, word):
        """Whether a word is a single type."""
        need_word(word)
        return self._singles.get(word, False)

    def reach(self, word):
        """The names in the reach of a type, ascending."""
        need_word(word)
        return tuple(self._reaches.get(word, []))

    def family_of(self, name):
        """The family of a class, or None."""
        need_word(name)
        return self._table[name].family if name in self._table else None

    def is_beneath(self, name, other):
        """Whether a class is another one, or stands beneath it."""
        need_word(name)
        need_word(other)
        if name not in self._table or other not in self._table:
            return False
        return name == other or other in self._uppers[name]

    def all_classes(self, classes):
        """The classes that the schema has, with all above them, ascending."""
        _need_words(classes)
        found = {}
        for name in classes:
            if name in self._table:
                found[name] = True
                for upper in self._uppers[name]:
                    found[upper] = True
        return tuple(sorted(found))

    def must_bear(self, classes):
        """The types that the classes must bear, ascending."""
        found = {word: True for name in self.all_classes(classes) for word in self._table[name].must}
        return tuple(sorted(found))

    def may_bear(self, classes):
        """The types that the classes may bear, ascending."""
        found = {word: True for name in self.all_classes(classes) for word in self._table[name].may}
        return tuple(sorted(found))

    def lets_bear(self, classes, word):
        """Whether the classes let a type of the reach of this one be borne."""
        borne = self.must_bear(classes) + self.may_bear(classes)
        return any([each in borne for each in self.reach(word)])

    def shape_of(self, classes):
        """The least shape among the classes, or None."""
        _need_words(classes)
        return min([name for name in classes if name in self._shapes], default=None)

    def naming_types(self, shape):
        """The types that name an entry of a shape, ascending."""
        _need_shape(shape)
        return self._shapes[shape][0] if shape in self._shapes else ()

    def extras_of(self, shape):
        """The extras that a shape lets, ascending."""
        _need_shape(shape)
        return self._shapes[shape][2] if shape in self._shapes else ()

    def can_stand(self, shape, other):
        """Whether a shape can stand beneath another one, or beneath the root."""
        _need_shape(shape)
        _need_shape(other)
        if shape not in self._shapes:
            return False
        places = self._shapes[shape][1]
        if other not in self._shapes:
            return other == "" and "" in places
        return any([upper in places for upper in shape_line(self._table, other)])
