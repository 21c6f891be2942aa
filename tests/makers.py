"""What tests of asking share: a schema, trees and filters that are made by chance from a seed, and plain answers."""

import random

from bailiwick.base.kinds import does_match, form_of, is_fit, is_less, pattern_form
from bailiwick.rules.schemas import Class, Schema
from bailiwick.rules.types import Type
from bailiwick.tree.trees import does_stand_beneath, entry_of, is_tree, level

TEXTS = ("Ann", "ann b", "  ANN  B ", "bob", "annabob", "b", "an", "nn", "x*y", "(a)", "back\\slash", "10", "9")
EXACTS = ("Ann", "ann", " a", "a ", "abcabc", "abc", "bc", "ca", "10", "9")
NUMBERS = ("-12", "-3", "0", "3", "9", "10", "100")
CLASSES = (
    ("unit",), ("unit",), ("human",), ("human", "vip"), ("worker",), ("top", "worker"), ("group",), ("share",),
    ("alias",), ("human", "nowhere"), ("nowhere",), ("vip",), ("human", "unit"),
)


def asking_schema():
    """A schema with types beneath others of each kind, and classes of each family."""
    return Schema(
        (
            Type("cn", "text"), Type("nick", "text", "cn"), Type("pet", "text", "nick"), Type("tag", "exact"),
            Type("sub", "exact", "tag"), Type("size", "number"), Type("width", "number", "size"), Type("ok", "flag"),
            Type("yes", "flag", "ok"), Type("boss", "link"), Type("pal", "link", "boss"), Type("age", "number", single=True),
        ),
        (
            Class("thing", "frame", may=("ok", "size")),
            Class("unit", "shape", ("thing",), must=("cn",), may=("tag",), named=("cn",), places=("", "unit")),
            Class("human", "shape", must=("cn",), may=("nick", "pal", "sub", "width"), named=("cn", "nick"),
                  places=("human", "unit"), lets=("vip",)),
            Class("worker", "shape", ("human",), may=("age", "boss", "yes")),
            Class("vip", "extra", may=("pet", "tag")),
            Class("top", "extra", ("vip",)),
        ),
    )


def some_text(rng, kind, numbers):
    """A text that fits a kind."""
    if kind == "link":
        return str(rng.choice(numbers))
    return rng.choice({"text": TEXTS, "exact": EXACTS, "number": NUMBERS, "flag": ("yes", "no")}[kind])


def some_pairs(rng, schema, numbers, most):
    """Pairs of types and texts, of some types several ones."""
    return [(each.name, some_text(rng, each.kind, numbers)) for each in rng.choices(schema.types, k=rng.randrange(most))]


def some_entry(rng, schema, above, numbers, most=9):
    """An entry, perhaps with faults by the rules."""
    naming = ("cn", rng.choice(TEXTS))
    if rng.randrange(4) == 0:
        naming = ("tag", rng.choice(EXACTS))
    return entry_of(schema, above, naming, rng.choice(CLASSES), (naming, *some_pairs(rng, schema, numbers, most)))


def some_tree(seed, schema, many, most=9):
    """A tree of about so many entries, perhaps with faults by the rules."""
    rng = random.Random(f"tree {seed}")
    numbers = rng.sample(range(1, 90), many)
    tree = {}
    for number in numbers:
        lower = [each for each in tree if level(tree, each) < 8]
        entry = some_entry(rng, schema, rng.choice([0, *lower, *lower, *lower]), numbers, most)
        while any(entry[:2] == tree[each][:2] for each in tree):
            entry = some_entry(rng, schema, rng.choice([0, *lower]), numbers, most)
        tree[number] = entry
    assert is_tree(schema, tree)
    return tree


def changed_tree(seed, schema, tree):
    """A tree that is a little unlike another one: entries that come, go, move, or have other values and classes."""
    rng = random.Random(f"change {seed}")
    whole = dict(tree)
    for _ in range(rng.randrange(4)):
        number = rng.choice([*whole, rng.randrange(1, 100)])
        trial = dict(whole)
        if rng.randrange(3) == 0:
            trial.pop(number, None)
        else:
            trial[number] = some_entry(rng, schema, rng.choice([0, *whole]), [*whole, number])
        if is_tree(schema, trial):
            whole = trial
    return whole


def some_item(rng):
    """An item, now and then of a type or class that there is not, or with a text that does not fit."""
    word = rng.choice(("cn", "cn", "nick", "pet", "tag", "tag", "sub", "size", "size", "width", "ok", "yes", "boss",
                       "pal", "age", "label", "to", "none"))
    text = rng.choice(rng.choice((TEXTS, EXACTS, NUMBERS, ("yes", "no", " ", "12"))))
    first = rng.choice(("has", "is", "is", "from", "to", "pieces", "pieces", "class", "within"))
    if first == "has":
        return ("has", word)
    if first == "class":
        return ("class", rng.choice(("thing", "unit", "human", "worker", "vip", "top", "alias", "group", "nowhere", "none")))
    if first == "within":
        return ("within", rng.randrange(1, 90))
    if first != "pieces":
        return (first, word, text)
    pieces = ("a", "an", "nn", "ann", "A", "b", " ", "n b", "  B", "bc", "abc", "0", "x*")
    middles = tuple([rng.choice(pieces) for _ in range(rng.choice((0, 0, 1, 2)))])
    first, last = [rng.choice(("", "", *pieces)) for _ in range(2)]
    return ("pieces", word, first or "a", middles, last) if rng.randrange(2) else ("pieces", word, "", middles, last or "n")


def some_filter(rng, deep=6):
    """A filter at most so deep; it has not too many parts, mostly."""
    first = rng.choice(("and", "or", "not", "item", "item"))
    if deep == 1 or first == "item":
        return some_item(rng)
    if first == "not":
        return ("not", some_filter(rng, deep - 1))
    return (first, tuple([some_filter(rng, deep - 1) for _ in range(rng.choice((0, 1, 2, 2, 3)))]))


def many_parts(asked):
    """How many parts a filter has."""
    if asked[0] in ("and", "or"):
        return 1 + sum(many_parts(each) for each in asked[1])
    return 1 + many_parts(asked[1]) if asked[0] == "not" else 1


def deep_of(asked):
    """How deep the filters lie within one another."""
    if asked[0] in ("and", "or"):
        return 1 + max([deep_of(each) for each in asked[1]], default=0)
    return 1 + deep_of(asked[1]) if asked[0] == "not" else 1


def some_filters(seed, many):
    """So many filters within all bounds."""
    rng = random.Random(f"filters {seed}")
    found = []
    while len(found) < many:
        asked = some_filter(rng)
        if many_parts(asked) <= 32:
            found.append(asked)
    return found


def plain_match(kind, item, form):
    """Whether what an item with a type looks for matches a form, told as the document tells it."""
    if item[0] == "has":
        return True
    if item[0] == "pieces":
        return does_match(kind, item[2:], form)
    asked = form_of(kind, item[2])
    if item[0] == "is":
        return form == asked
    return not is_less(kind, form, asked) if item[0] == "from" else not is_less(kind, asked, form)


def plain_item(schema, tree, item, number):
    """The value of an item at an entry, told as the document tells it."""
    classes = tree[number][2]
    if item[0] == "within":
        is_there = item[1] in tree and (number == item[1] or does_stand_beneath(tree, number, item[1]))
        return "true" if is_there else "false"
    if item[0] == "class":
        if schema.family_of(item[1]) is None:
            return "unknown"
        return "true" if item[1] in schema.all_classes(classes) else "false"
    kind = schema.kind_of(item[1])
    if kind is None or not schema.lets_bear(classes, item[1]):
        return "unknown"
    if item[0] in ("is", "from", "to") and not is_fit(kind, item[2]):
        return "unknown"
    if item[0] in ("from", "to") and kind in ("flag", "link"):
        return "unknown"
    if item[0] == "pieces" and pattern_form(kind, item[2:]) is None:
        return "unknown"
    forms = [form for word, form, text in tree[number][3] if word in schema.reach(item[1])]
    return "true" if any(plain_match(kind, item, form) for form in forms) else "false"


def plain_value(schema, tree, asked, number):
    """The value of a filter at an entry, told as the document tells it: false, unknown and true as 0, 1 and 2."""
    def rank(each):
        if each[0] == "and":
            return min([rank(part) for part in each[1]], default=2)
        if each[0] == "or":
            return max([rank(part) for part in each[1]], default=0)
        if each[0] == "not":
            return 2 - rank(each[1])
        return ("false", "unknown", "true").index(plain_item(schema, tree, each, number))
    return ("false", "unknown", "true")[rank(asked)]
