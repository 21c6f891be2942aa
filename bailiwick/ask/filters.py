"""Filters: what they are, their values at entries, and their texts."""

from bailiwick.ask.reading import SPECIAL, Reader
from bailiwick.base.kinds import ORDERED, can_be_parted, is_pattern, known_form, order_key, pattern_form
from bailiwick.base.names import MOST_SIGNS
from bailiwick.base.words import are_signs, first_word, is_number, is_text, is_word
from bailiwick.errors import InvalidFilter, InvalidText
from bailiwick.tree.trees import is_of_class, need_number, need_tree, upward_numbers

MAX_DEEP = 6
MAX_PARTS = 32
VALUES = ("false", "true", "unknown")
TURNED = {"false": "true", "true": "false", "unknown": "unknown"}
# The signs with which the texts of filters begin, and those behind the types of items.
BEGINNINGS = {"and": "(&", "or": "(|", "not": "(!"}
EQUALS = {"is": "=", "from": ">=", "to": "<="}


def _has_word(value):
    """Whether the value has a word alone, its first word left aside."""
    return len(value) == 2 and is_word(value[1])


def _has_text(value):
    """Whether the value has a word and a text, its first word left aside."""
    return len(value) == 3 and is_word(value[1]) and is_text(value[2])


def _has_pattern(value):
    """Whether the value has a word and a pattern, its first word left aside."""
    return len(value) == 5 and is_word(value[1]) and is_pattern(value[2:])


def _has_number(value):
    """Whether the value has a number alone, its first word left aside."""
    return len(value) == 2 and is_number(value[1])


ITEMS = {
    "has": _has_word,
    "is": _has_text,
    "from": _has_text,
    "to": _has_text,
    "pieces": _has_pattern,
    "class": _has_word,
    "within": _has_number,
}


def is_item(value):
    """Whether the value is an item."""
    word = first_word(value)
    if word not in ITEMS:
        return False
    action = ITEMS[word]
    return action(value)


def _parts_of(value):
    """The values right within what could be a filter, none for an item; None for what cannot be a filter."""
    word = first_word(value)
    if word not in BEGINNINGS:
        return () if is_item(value) else None
    if len(value) != 2:
        return None
    if word == "not":
        return value[1:]
    return value[1] if isinstance(value[1], tuple) else None


def is_filter(value):
    """Whether the value is a filter."""
    ahead = [(value, 1)]
    many = 0
    while ahead != []:
        part, deep = ahead.pop()
        many += 1
        parts = _parts_of(part)
        # A value with too many parts is left as soon as this shows: it can have very many.
        if parts is None or deep > MAX_DEEP or many > MAX_PARTS:
            return False
        ahead.extend([(each, deep + 1) for each in parts])
    return True


def need_filter(asked):
    """Refuses what is no filter."""
    if not is_filter(asked):
        raise InvalidFilter(asked)


def known_items(asked):
    """The different items of a known filter, ascending."""
    found = {}
    ahead = [asked]
    while ahead != []:
        part = ahead.pop()
        if part[0] in BEGINNINGS:
            ahead.extend(_parts_of(part))
        else:
            found[part] = True
    return sorted(found)


def items_of(asked):
    """The different items of a filter, ascending."""
    need_filter(asked)
    return tuple(known_items(asked))


def joined(word, values):
    """The value of an and or an or whose filters have these values."""
    strong = "false" if word == "and" else "true"
    if strong in values:
        return strong
    return "unknown" if "unknown" in values else TURNED[strong]


def value_from(asked, values):
    """The value of a known filter whose items have the values of a dict."""
    word = asked[0]
    if word == "not":
        return TURNED[value_from(asked[1], values)]
    if word in BEGINNINGS:
        return joined(word, [value_from(each, values) for each in asked[1]])
    return values[asked]


def wanted_of(schema, item):
    """What an item with a type looks for: the form of its text or pattern, "" for any value.

    None if the item is unknown at all entries.
    """
    kind = schema.kind_of(item[1])
    if kind is None or (item[0] in ("from", "to") and kind not in ORDERED):
        return None
    if item[0] == "has":
        return ""
    if item[0] == "pieces":
        return pattern_form(kind, item[2:])
    return known_form(kind, item[2])


def is_matched(kind, word, wanted, form):
    """Whether a form of a kind is what an item with this first word looks for."""
    if word == "has":
        return True
    if word == "is":
        return form == wanted
    if word == "pieces":
        return can_be_parted(form, wanted)
    if word == "from":
        return order_key(kind, form) >= order_key(kind, wanted)
    return order_key(kind, form) <= order_key(kind, wanted)


def _value_of_type(schema, entry, item):
    """The value of an item with a type at an entry."""
    wanted = wanted_of(schema, item)
    if wanted is None or not schema.lets_bear(entry[2], item[1]):
        return "unknown"
    kind = schema.kind_of(item[1])
    reach = schema.reach(item[1])
    forms = [form for word, form, text in entry[3] if word in reach]
    return "true" if any([is_matched(kind, item[0], wanted, form) for form in forms]) else "false"


def _item_value(schema, tree, item, number):
    """The value of an item at an entry."""
    if item[0] == "within":
        return "true" if item[1] in upward_numbers(tree, number) else "false"
    if item[0] != "class":
        return _value_of_type(schema, tree[number], item)
    if schema.family_of(item[1]) is None:
        return "unknown"
    return "true" if is_of_class(schema, tree[number], item[1]) else "false"


def known_value(schema, tree, asked, number):
    """The value of a known filter at an entry of what is known to be a tree."""
    return value_from(asked, {item: _item_value(schema, tree, item, number) for item in known_items(asked)})


def value_at(schema, tree, asked, number):
    """The value of a filter at an entry."""
    need_tree(schema, tree)
    need_filter(asked)
    need_number(tree, number)
    return known_value(schema, tree, asked, number)


def numbers_true(schema, tree, asked):
    """The numbers of the entries at which a filter is true, ascending."""
    need_tree(schema, tree)
    need_filter(asked)
    return tuple([number for number in sorted(tree) if known_value(schema, tree, asked, number) == "true"])


def _plain(text):
    """A text of an item as it stands in the text of the item."""
    return "".join(["\\" + sign if sign in SPECIAL else sign for sign in text])


def _item_text(item):
    """The text of an item."""
    word = item[0]
    if word == "class":
        return "(:" + item[1] + ")"
    if word == "within":
        return "(#" + str(item[1]) + ")"
    if word == "has":
        return "(" + item[1] + "=*)"
    if word == "pieces":
        pieces = [item[2], *item[3], item[4]]
        return "(" + item[1] + "=" + "*".join([_plain(piece) for piece in pieces]) + ")"
    return "(" + item[1] + EQUALS[word] + _plain(item[2]) + ")"


def _known_text(asked):
    """The text of a known filter."""
    if asked[0] not in BEGINNINGS:
        return _item_text(asked)
    return BEGINNINGS[asked[0]] + "".join([_known_text(each) for each in _parts_of(asked)]) + ")"


def filter_text(asked):
    """The text of a filter."""
    need_filter(asked)
    return _known_text(asked)


def read_filter(signs):
    """The filter with just this text."""
    if not are_signs(signs, MOST_SIGNS):
        raise InvalidText(signs)
    asked = Reader(signs).take_filter()
    if not is_filter(asked):
        raise InvalidFilter(signs)
    return asked
