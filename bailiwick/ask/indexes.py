"""Indexes: tables of the values of a tree, by which filters are answered without looking at each entry."""

from bailiwick.ask.filters import TURNED, is_matched, joined, need_filter, wanted_of
from bailiwick.base.kinds import ORDERED, PIECED, order_key
from bailiwick.base.words import MOST_NUMBER, are_signs, is_text, need_word
from bailiwick.errors import InvalidOperation, InvalidText, InvalidTree
from bailiwick.tree.trees import is_known_tree, need_tree, upward_numbers

MARK = "\n"
GRAM_SIGNS = 3


def _grams_of(signs):
    """The grams of a string, perhaps some of them more than once."""
    return [signs[at:at + GRAM_SIGNS] for at in range(len(signs) - GRAM_SIGNS + 1)]


def _grams_of_pattern(pieces):
    """The grams of a pattern's form."""
    first, middles, last = pieces
    # A first or last piece without signs has no grams, as its mark alone is too short.
    return [gram for signs in (MARK + first, *middles, last + MARK) for gram in _grams_of(signs)]


def _first_at(rows, mark):
    """The index of the first of some ascending rows that is not less than a mark."""
    low = 0
    high = len(rows)
    while low < high:
        middle = (low + high) // 2
        if rows[middle] < mark:
            low = middle + 1
        else:
            high = middle
    return low


def _numbers_with(values, value):
    """The numbers that have a value in a dict, ascending."""
    return tuple([number for number in sorted(values) if values[number] == value])


class Tables:
    """Which entries stand under which keys, and the values of types in the order of their kinds.

    Keys are triples: ("form", type, form), ("gram", type, gram), ("has", type, ""), ("bears", type, "") and
    ("class", class, ""). The rows of a type are triples (what orders it, number, form), and ascend.
    """

    def __init__(self, schema):
        self._schema = schema
        self._marks = {}
        self._rows = {each.name: [] for each in schema.types if each.kind in ORDERED}

    def all_rows(self, word):
        """The rows of a type whose kind has an order."""
        return list(self._rows[word])

    def under(self, table, word, signs):
        """The numbers of the entries that stand under a key, ascending."""
        return sorted(self._marks.get((table, word, signs), {}))

    def rows_from(self, word, form):
        """The rows of a type whose forms are not less than a form."""
        rows = self._rows[word]
        return rows[_first_at(rows, (order_key(self._schema.kind_of(word), form), 0, "")):]

    def rows_to(self, word, form):
        """The rows of a type whose forms are not greater than a form."""
        rows = self._rows[word]
        return rows[:_first_at(rows, (order_key(self._schema.kind_of(word), form), MOST_NUMBER + 1, ""))]

    def keys_of_classes(self, classes):
        """The keys under which an entry stands by its classes."""
        schema = self._schema
        keys = [("class", name, "") for name in schema.all_classes(classes)]
        borne = schema.must_bear(classes) + schema.may_bear(classes)
        for each in schema.types:
            if any([word in borne for word in schema.reach(each.name)]):
                keys.append(("bears", each.name, ""))
        return keys

    def keys_of(self, entry):
        """All keys under which an entry stands, perhaps some of them more than once."""
        keys = self.keys_of_classes(entry[2])
        for word, form, text in entry[3]:
            keys.append(("has", word, ""))
            keys.append(("form", word, form))
            if self._schema.kind_of(word) in PIECED:
                keys.extend([("gram", word, gram) for gram in _grams_of(MARK + form + MARK)])
        return keys

    def put_in(self, number, entry):
        """Takes an entry into the tables, in which it is not."""
        for key in self.keys_of(entry):
            self._marks.setdefault(key, {})[number] = True
        for word, form, text in entry[3]:
            if word in self._rows:
                row = (order_key(self._schema.kind_of(word), form), number, form)
                self._rows[word].insert(_first_at(self._rows[word], row), row)

    def take_out(self, number, entry):
        """Takes an entry out of the tables, in which it is."""
        keys = sorted(set(self.keys_of(entry)))
        for key in keys:
            del self._marks[key][number]
            if self._marks[key] == {}:
                del self._marks[key]
        words = sorted({word for word, form, text in entry[3] if word in self._rows})
        for word in words:
            self._rows[word] = [row for row in self._rows[word] if row[1] != number]


class Index:
    """Tables of a tree, and the tree itself."""

    def __init__(self, schema, tree):
        need_tree(schema, tree)
        self._schema = schema
        self._tables = Tables(schema)
        self._tree = {}
        self._looked = 0
        self._go_to(tree)

    @property
    def looked(self):
        """How many times an entry was looked at in the last call of sets."""
        return self._looked

    def sets(self, asked):
        """The numbers of the entries at which a filter is true, and of those at which it is false, ascending."""
        need_filter(asked)
        self._looked = 0
        values = self._values_of(asked)
        return _numbers_with(values, "true"), _numbers_with(values, "false")

    def follow(self, tree):
        """Follows another tree, and returns the numbers of the entries that were taken out or put in, ascending."""
        if not is_known_tree(self._schema, tree):
            raise InvalidTree(tree)
        return tuple(self._go_to(tree))

    def with_form(self, word, form):
        """The numbers of the entries that have a value of just this type with this form, ascending."""
        need_word(word)
        if not is_text(form):
            raise InvalidText(form)
        return tuple(self._tables.under("form", word, form))

    def ordered(self, word):
        """The pairs (form, number) of all values of just this type, in the order of its kind."""
        if self._schema.kind_of(word) not in ORDERED:
            raise InvalidOperation(word)
        return tuple([(form, number) for key, number, form in self._tables.all_rows(word)])

    def with_gram(self, word, gram):
        """The numbers of the entries that have a value of just this type with this gram, ascending."""
        need_word(word)
        if not isinstance(gram, str) or len(gram) != GRAM_SIGNS or not are_signs(gram.replace(MARK, ""), GRAM_SIGNS):
            raise InvalidText(gram)
        return tuple(self._tables.under("gram", word, gram))

    def entries(self):
        """The tree."""
        return dict(self._tree)

    def twin(self):
        """An independent index of the same tree."""
        return Index(self._schema, self._tree)

    def _go_to(self, tree):
        """Takes out and puts in the entries that are unlike in a known tree, and returns their numbers."""
        numbers = [number for number in sorted(set(self._tree) | set(tree))
                   if self._tree.get(number) != tree.get(number)]
        for number in numbers:
            if number in self._tree:
                self._tables.take_out(number, self._tree[number])
            if number in tree:
                self._tables.put_in(number, tree[number])
        self._tree = {number: tree[number] for number in sorted(tree)}
        return numbers

    def _values_of(self, asked):
        """The values of a filter by the numbers of the entries; where there is none, it is unknown."""
        word = asked[0]
        if word == "not":
            values = self._values_of(asked[1])
            return {number: TURNED[values[number]] for number in values}
        if word in ("and", "or"):
            parts = [self._values_of(each) for each in asked[1]]
            return {number: joined(word, [part.get(number, "unknown") for part in parts]) for number in self._tree}
        if word == "within":
            return self._split(sorted(self._tree), self._numbers_within(asked[1]))
        if word == "class":
            numbers = [] if self._schema.family_of(asked[1]) is None else sorted(self._tree)
            return self._split(numbers, self._tables.under("class", asked[1], ""))
        wanted = wanted_of(self._schema, asked)
        if wanted is None:
            return {}
        return self._split(self._tables.under("bears", asked[1], ""), self._matched(asked, wanted))

    def _split(self, numbers, matched):
        """The values of an item that is known at some entries, and true at those of them that are matched."""
        return {number: "true" if number in matched else "false" for number in numbers}

    def _numbers_within(self, top):
        """The numbers of the entry that has a number, and of all entries beneath it."""
        return [number for number in self._tree if top in upward_numbers(self._tree, number)]

    def _matched(self, item, wanted):
        """The numbers of the entries that have a value for which an item with a type looks."""
        words = self._schema.reach(item[1])
        if item[0] == "pieces":
            return self._looked_at(words, wanted)
        found = []
        for word in words:
            if item[0] == "has":
                found.extend(self._tables.under("has", word, ""))
            elif item[0] == "is":
                found.extend(self._tables.under("form", word, wanted))
            elif item[0] == "from":
                found.extend([number for key, number, form in self._tables.rows_from(word, wanted)])
            else:
                found.extend([number for key, number, form in self._tables.rows_to(word, wanted)])
        return found

    def _under_any(self, table, words, signs):
        """The numbers of the entries that stand under a key with one of the types."""
        return [number for word in words for number in self._tables.under(table, word, signs)]

    def _candidates(self, words, pieces):
        """The numbers of the entries that have each gram of a pattern, or just a value if there is no gram."""
        found = sorted(set(self._under_any("has", words, "")))
        for gram in _grams_of_pattern(pieces):
            having = self._under_any("gram", words, gram)
            found = [number for number in found if number in having]
        return found

    def _looked_at(self, words, pieces):
        """The candidates that a pattern matches, each of which is looked at."""
        candidates = self._candidates(words, pieces)
        self._looked += len(candidates)
        found = []
        for number in candidates:
            forms = [form for word, form, text in self._tree[number][3] if word in words]
            if any([is_matched(self._schema.kind_of(words[0]), "pieces", pieces, form) for form in forms]):
                found.append(number)
        return found
