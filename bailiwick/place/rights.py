"""Rights: what the rules of a tree grant to somebody at an entry, or at the root."""

from bailiwick.base.words import is_word, need_word
from bailiwick.errors import InvalidWord, UnknownNumber
from bailiwick.place.areas import known_in_area
from bailiwick.place.groups import known_groups_of
from bailiwick.tree.trees import is_of_class, need_number, need_place, need_tree, own_forms, upward_numbers

RIGHTS = ("add", "move", "remove", "see", "write")


def need_who(tree, who):
    """Refuses what is neither nobody known, nor the house, nor the number of an entry."""
    if who is not None:
        need_place(tree, who)


def present(tree, who):
    """Somebody as it is now: nobody known, if its entry is no longer there."""
    return who if who == 0 or who in tree else None


def _is_rule(schema, tree, number):
    """Whether an entry is a rule."""
    return is_of_class(schema, tree[number], "rule")


def _groups_of(schema, tree, who):
    """The groups of which somebody who is not the house is a member."""
    return [] if who is None else known_groups_of(schema, tree, who)


def _holds_everywhere(tree, rule, who, groups):
    """Whether a rule holds for somebody who is not the house, and is in some groups, wherever a right is asked."""
    words = own_forms(tree[rule], "who")
    if "anyone" in words:
        return True
    if who is None:
        return False
    below = upward_numbers(tree, who) if "yes" in own_forms(tree[rule], "below") else []
    whom = [int(form) for form in own_forms(tree[rule], "whom")]
    return "known" in words or any([each == who or each in groups or each in below for each in whom])


def _holds_at_itself(tree, rule):
    """Whether a rule holds for everybody where a right is asked at its own entry."""
    return "self" in own_forms(tree[rule], "who")


class Ruling:
    """What a rule with a rank tells of rights, and whether it holds for somebody everywhere."""

    def __init__(self, number, entry, is_everywhere):
        self.number = number
        self.rank = max([int(form) for form in own_forms(entry, "rank")])
        self.rights = own_forms(entry, "may")
        self.spoken = own_forms(entry, "what")
        self.is_yes = "yes" in own_forms(entry, "grants")
        self.is_everywhere = is_everywhere


def _rulings_for(schema, tree, who):
    """The rules with a rank that hold for somebody who is not the house, everywhere or at its own entry."""
    found = []
    groups = _groups_of(schema, tree, who)
    for rule in sorted(tree):
        if not _is_rule(schema, tree, rule) or own_forms(tree[rule], "rank") == []:
            continue
        is_everywhere = _holds_everywhere(tree, rule, who, groups)
        if is_everywhere or _holds_at_itself(tree, rule):
            found.append(Ruling(rule, tree[rule], is_everywhere))
    return found


def _does_speak(schema, ruling, word):
    """Whether a rule speaks of a type, or of the entry itself for None."""
    if "all" in ruling.spoken:
        return True
    if word is None:
        return "entry" in ruling.spoken
    return any([is_word(each) and word in schema.reach(each) for each in ruling.spoken])


def _deciding_of(schema, rulings, word):
    """Those of some rules that decide on a type, or on the entry itself for None."""
    speaking = [each for each in rulings if _does_speak(schema, each, word)]
    top = max([each.rank for each in speaking], default=None)
    return [each for each in speaking if each.rank == top]


def _do_grant(schema, rulings, word):
    """Whether some rules grant a right for a type, or for the entry itself for None."""
    rows = _deciding_of(schema, rulings, word)
    return rows != [] and all([each.is_yes for each in rows])


class Asker:
    """Somebody who asks for rights in a known tree, with the rules that hold for it there."""

    def __init__(self, schema, tree, who):
        self._schema = schema
        self._tree = tree
        self._who = who
        self._rulings = [] if who == 0 else _rulings_for(schema, tree, who)

    def rulings_at(self, right, number):
        """The rules of a right that hold at an entry, or the root, and in whose areas it lies."""
        return [each for each in self._rulings
                if right in each.rights and (each.is_everywhere or self._who == number)
                and known_in_area(self._schema, self._tree, number, each.number)]

    def deciding_at(self, right, number, word):
        """The numbers of the rules that decide on a right, ascending."""
        return [each.number for each in _deciding_of(self._schema, self.rulings_at(right, number), word)]

    def granted_of(self, right, number, words):
        """Those of some types for which a right is granted; None stands for the entry itself."""
        if self._who == 0:
            return list(words)
        rulings = self.rulings_at(right, number)
        return [word for word in words if _do_grant(self._schema, rulings, word)]

    def is_let(self, right, number, word):
        """Whether a right is granted for a type, or for the entry itself for None."""
        return self.granted_of(right, number, [word]) != []


def _need_right(right):
    """Refuses what is no right."""
    if right not in RIGHTS:
        raise InvalidWord(right)


def _need_question(schema, tree, who, right, number):
    """Refuses what makes no question for a right."""
    need_tree(schema, tree)
    need_who(tree, who)
    _need_right(right)
    need_place(tree, number)


def is_granted(schema, tree, who, right, number, word=None):
    """Whether a right is granted to somebody at an entry, or the root, for it itself or for a type."""
    _need_question(schema, tree, who, right, number)
    if word is not None:
        need_word(word)
    return Asker(schema, tree, who).is_let(right, number, word)


def deciding(schema, tree, who, right, number, word=None):
    """The numbers of the rules that decide on a right, ascending; none for the house."""
    _need_question(schema, tree, who, right, number)
    if word is not None:
        need_word(word)
    return tuple(Asker(schema, tree, who).deciding_at(right, number, word))


def does_hold(schema, tree, rule, who, number):
    """Whether a rule holds for somebody at an entry, or the root."""
    need_tree(schema, tree)
    need_number(tree, rule)
    if not _is_rule(schema, tree, rule):
        raise UnknownNumber(rule)
    need_who(tree, who)
    need_place(tree, number)
    if who == 0:
        return False
    if who == number and _holds_at_itself(tree, rule):
        return True
    return _holds_everywhere(tree, rule, who, _groups_of(schema, tree, who))


def granted_types(schema, tree, who, right, number):
    """The types of the schema for which a right is granted, ascending."""
    _need_question(schema, tree, who, right, number)
    return tuple(Asker(schema, tree, who).granted_of(right, number, [each.name for each in schema.types]))
