"""What tests of rights and views share: rules that are made by chance from a seed, and plain answers."""

import random

from bailiwick.place.areas import in_area
from bailiwick.place.groups import members
from bailiwick.place.rights import RIGHTS
from bailiwick.place.shares import shown
from bailiwick.rules.schemas import Class, Schema
from bailiwick.rules.types import Type
from bailiwick.tree.doing import tried
from bailiwick.tree.trees import does_stand_beneath, is_tree, level
from bailiwick.tree.units import outcome_of
from tests.makers import EXACTS, TEXTS, some_text
from tests.samples import entry


def ruling_schema():
    """A schema for rights: types beneath others, extras beneath extras, links, and a type that is called entry."""
    return Schema(
        (Type("cn", "text"), Type("nick", "text", "cn"), Type("pet", "text", "nick"), Type("mail", "exact"),
         Type("mark", "number"), Type("code", "exact", single=True), Type("boss", "link"), Type("pal", "link", "boss"),
         Type("entry", "exact")),
        (Class("unit", "shape", must=("cn",), may=("mail", "mark", "nick"), named=("cn", "mail"), places=("", "unit"),
               lets=("star",)),
         Class("human", "shape", must=("cn",), may=("boss", "mail", "mark", "nick", "pal"), named=("cn",),
               places=("human", "unit"), lets=("star", "vip")),
         Class("bound", "shape", ("human",), must=("pal",)),
         Class("base", "frame", may=("mark",)),
         Class("vip", "extra", ("base",), must=("code",)),
         Class("top", "extra", ("vip",), may=("pet",)),
         Class("star", "extra", may=("mail",))),
    )


def rule(above, text, *values):
    """A rule, its values told as pairs."""
    return entry(above, "label", text, ("rule",), *[(word, str(value)) for word, value in values])


def grants(above, text, rank, *values, yes="yes"):
    """A rule that speaks of all types and entries, and grants or not."""
    return rule(above, text, ("rank", rank), ("what", "all"), ("grants", yes), *values)


def let_all(number, above, text, rank, *values):
    """A tree of one rule that grants every right for everything."""
    may = [("may", right) for right in RIGHTS]
    return {number: grants(above, text, rank, *may, *values)}


def texts(tree, number, word):
    """The texts of an entry's own values of a type."""
    return [form for each, form, text in tree[number][3] if each == word]


def plain_holds(schema, tree, rule, who, number):
    """Whether a rule holds for somebody, told as the document tells it."""
    if who == 0:
        return False
    words = texts(tree, rule, "who")
    if "anyone" in words or (who is not None and "known" in words) or (who is not None and "self" in words and who == number):
        return True
    if who is None:
        return False
    for to in map(int, texts(tree, rule, "whom")):
        if to == who or ("group" in tree[to][2] and who in members(schema, tree, to)):
            return True
        if "yes" in texts(tree, rule, "below") and does_stand_beneath(tree, who, to):
            return True
    return False


def plain_deciding(schema, tree, who, right, number, word=None):
    """The rules that decide, told as the document tells it."""
    found = {}
    for each in tree:
        ranks = [int(text) for text in texts(tree, each, "rank")]
        what = texts(tree, each, "what")
        if "rule" not in tree[each][2] or right not in texts(tree, each, "may") or not ranks:
            continue
        if not in_area(schema, tree, number, each) or not plain_holds(schema, tree, each, who, number):
            continue
        names = ["entry"] if word is None else [kind.name for kind in schema.types if word in schema.reach(kind.name)]
        if "all" in what or set(names) & set(what):
            found[each] = max(ranks)
    return tuple([each for each in sorted(found) if found[each] == max(found.values())])


def plain_granted(schema, tree, who, right, number, word=None):
    """Whether a right is granted, told as the document tells it."""
    if who == 0:
        return True
    rows = plain_deciding(schema, tree, who, right, number, word)
    return bool(rows) and all("yes" in texts(tree, each, "grants") for each in rows)


def plain_seen(schema, tree, who, number):
    """Whether somebody sees an entry, or the root, told as the document tells it."""
    if number == 0:
        return True
    if number not in tree or not plain_seen(schema, tree, who, tree[number][0]):
        return False
    return plain_granted(schema, tree, who, "see", number)


def plain_view(schema, tree, who):
    """The view of somebody, told as the document tells it."""
    whole = shown(schema, tree)
    if who == 0:
        return whole
    found = {}
    for number in sorted(tree):
        if not plain_seen(schema, tree, who, number):
            continue
        above, naming, classes, values = whole[number]
        kept = []
        for word, form, text in values:
            is_let = plain_granted(schema, tree, who, "see", number, word)
            if schema.kind_of(word) == "link" and not plain_seen(schema, tree, who, int(text)):
                is_let = False
            if is_let or (word, form) == naming:
                kept.append((word, form, text))
        found[number] = (above, naming, classes, tuple(kept))
    return found


def plain_needed(schema, tree, deed):
    """The rights that a deed needs, told as the document tells it."""
    found = []

    def write(number, word):
        found.extend([("write", number, word), ("see", number, word)])

    if deed[0] == "add":
        found.append(("add", deed[2], None))
        for word, text in deed[5]:
            write(deed[2], word)
    if deed[0] == "change":
        for part in deed[2]:
            if part[0] != "extras":
                write(deed[1], part[1])
            else:
                classes = set(tree[deed[1]][2]) if deed[1] in tree else set()
                extras = {name for name in classes if schema.family_of(name) == "extra"}
                turned = tuple(classes ^ ((classes - extras) | set(part[1])))
                for word in sorted({*schema.must_bear(turned), *schema.may_bear(turned)}):
                    write(deed[1], word)
    if deed[0] == "move":
        found += [("move", deed[1], None), ("add", deed[2], None)]
        write(deed[1], deed[3][0])
        if not deed[4] and deed[1] in tree:
            write(deed[1], tree[deed[1]][1][0])
    if deed[0] == "remove":
        found.append(("remove", deed[1], None))
    return tuple([row for at, row in enumerate(found) if row not in found[:at]])


def plain_absent(schema, tree, who, deed):
    """The first number that a deed names and that somebody does not see, or None."""
    named = [] if deed[0] == "add" else [deed[1]]
    if deed[0] in ("add", "move") and deed[2] != 0:
        named.append(deed[2])
    pairs = []
    if deed[0] == "add":
        pairs = [pair for pair in deed[5] if pair[1] != str(deed[1])]
    if deed[0] == "change":
        for part in deed[2]:
            pairs += [part[1:]] if part[0] == "put" else [(part[1], text) for text in part[2]] if part[0] == "set" else []
    for word, text in pairs:
        is_plain = text.isdigit() and text == str(int(text)) and 1 <= int(text) <= 10 ** 12
        if schema.kind_of(word) == "link" and is_plain:
            named.append(int(text))
    return next((number for number in named if not plain_seen(schema, tree, who, number)), None)


def plain_done_by(schema, tree, who, unit, used=()):
    """What is told of a unit of somebody, told as the document tells it."""
    first = tree
    for at, deed in enumerate(unit):
        now = who if who in (0, None) or who in tree else None
        if now != 0:
            number = plain_absent(schema, tree, now, deed)
            if number is not None:
                return ("fallen", at, "absent", number)
            for right, number, word in plain_needed(schema, tree, deed):
                if not plain_granted(schema, tree, now, right, number, word):
                    return ("fallen", at, "denied", number)
        if deed[0] == "add" and deed[1] in used:
            return ("fallen", at, "used", deed[1])
        tree, code = tried(schema, tree, deed)
        if code is not None:
            return ("fallen", at, code, deed[1])
    told, _ = outcome_of(schema, first, unit, used)
    if told[0] == "done" or who == 0:
        return told
    now = who if who in tree else None
    return (*told[:3], told[3] if plain_seen(schema, tree, now, told[3]) else 0)


def some_rule(rng, tree, numbers):
    """A rule somewhere in a tree, perhaps with faults by the rules of the schema."""
    pairs = [("rank", rng.choice((0, 1, 2, 2, 3))) for _ in range(rng.choice((0, 1, 1, 1, 1, 1, 2)))]
    pairs += [("may", right) for right in rng.sample(RIGHTS, rng.randrange(1, 5))] + [("may", "see")] * rng.choice((0, 1, 1))
    words = ("entry", "entry", "all", "all", "cn", "nick", "mail", "mark", "boss", "pal", "code", "label", "none")
    pairs += [("what", rng.choice(words)) for _ in range(rng.randrange(1, 4))]
    pairs += [("grants", rng.choice(("yes", "no")))] * rng.choice((1, 1, 1, 0))
    pairs += [("who", word) for word in rng.sample(("anyone", "anyone", "known", "self"), rng.choice((0, 1, 1, 1, 2)))]
    pairs += [("whom", rng.choice(numbers)) for _ in range(rng.randrange(3))]
    pairs += [("below", rng.choice(("yes", "no")))] * rng.randrange(2)
    pairs += [(rng.choice(("least", "least", "most")), rng.randrange(3))] * rng.choice((0, 0, 1))
    pairs += [("without", rng.choice(numbers))] * rng.choice((0, 0, 1))
    pairs += [("of", rng.choice(("unit", "human", "group", "none")))] * rng.choice((0, 0, 0, 0, 1))
    above = rng.choice([0, *[number for number in tree if level(tree, number) < 8]])
    return rule(above, f"rule {rng.randrange(10 ** 6)}", *sorted(set(pairs)))


def some_ruled_tree(seed, schema, many, rules):
    """A tree with rules, shares and groups, perhaps with faults by the rules of the schema."""
    rng = random.Random(f"ruled {seed}")
    numbers = rng.sample(range(1, 100), many + rules)
    tree = {}
    for at, number in enumerate(numbers):
        lower = [each for each in tree if level(tree, each) < 5]
        above = rng.choice([0, *lower, *lower])
        name = f"{rng.choice(TEXTS)} {at}"
        shape = rng.choice(("unit", "human", "human", "group", "share", "bound"))
        types = {"unit": ("mail", "mark", "nick"), "group": ("member", "ground"), "share": ("mail", "mark", "boss", "pal"),
                 "human": ("mail", "mark", "boss", "pal"), "bound": ("pal", "nick")}[shape]
        naming = ("label" if shape in ("group", "share") else "cn", " ".join(name.lower().split()))
        pairs = {naming[1]: naming}
        for word in rng.sample(types, rng.randrange(len(types) + 1)):
            text = some_text(rng, schema.kind_of(word), numbers[:many])
            form = " ".join(text.lower().split()) if schema.kind_of(word) == "text" else text
            pairs[(word, form)] = (word, form, text)
        tree[number] = entry(above, *naming, (shape,), *[each for key, each in pairs.items() if key != naming[1]])
        if at >= many:
            del tree[number]
            tree[number] = some_rule(rng, {each: tree[each] for each in tree if each != number}, numbers[:many])
    if rng.randrange(5):
        # Without such a rule hardly anybody would see anything.
        rights = [("may", right) for right in RIGHTS if right == "see" or rng.randrange(3)]
        tree[100] = grants(0, "all", 1, *rights, ("who", rng.choice(("anyone", "anyone", "known"))))
    if not is_tree(schema, tree):
        raise AssertionError(tree)
    return tree


def some_deed(rng, schema, tree, number):
    """A deed that may be done, or not; `number` is what an add takes."""
    numbers = [*tree, *tree, 101]
    word = rng.choice(("add", "change", "change", "change", "move", "remove"))
    at = rng.choice(numbers)
    name = ("cn", f"{rng.choice(TEXTS)} {rng.randrange(40)}")
    if word == "remove":
        return ("remove", at)
    if word == "move":
        return ("move", at, rng.choice([0, *numbers]), rng.choice((name, ("mail", rng.choice(EXACTS)))), bool(rng.randrange(2)))
    types = ("mail", "mark", "boss", "pal", "cn", "nick", "code", "none")
    pairs = [(each, some_text(rng, schema.kind_of(each) or "text", [*numbers, number])) for each in rng.sample(types, rng.randrange(3))]
    if word == "add":
        return ("add", number, rng.choice([0, *numbers]), name, (rng.choice(("unit", "human", "group")),), (name, *pairs))
    parts = []
    for each, text in pairs:
        parts.append(rng.choice((("put", each, text), ("drop", each, text), ("clear", each), ("set", each, (text,)), ("raise", each, 1))))
    if rng.randrange(4) == 0:
        parts.append(("extras", tuple(rng.sample(("vip", "star", "top", "none", "human"), rng.randrange(3)))))
    return ("change", at, tuple(parts))


def somebody(rng, tree):
    """Somebody who asks."""
    return rng.choice((0, None, None, *tree))
