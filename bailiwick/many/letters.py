"""Letters of writers: their units, in the order of their stamps, and what is settled of them."""

from bailiwick.base.words import are_ascending_words, first_word, is_place, is_whole, is_word
from bailiwick.errors import InvalidLetter, InvalidOperation, InvalidTree
from bailiwick.place.rights import present
from bailiwick.place.views import known_done_by
from bailiwick.rules.judge import is_right
from bailiwick.tree.deeds import is_unit

MAX_WRITERS = 4
MAX_MADE = 60
MAX_COUNT = 10 ** 6


def _is_within(value, least, most):
    """Whether the value is an integer within bounds."""
    return is_whole(value) and least <= value <= most


def _is_deed_letter(value):
    """Whether the value is a letter that tells a unit, its first word left aside."""
    if len(value) != 6 or not is_word(value[1]):
        return False
    if not _is_within(value[2], 1, MAX_MADE) or not _is_within(value[3], 1, MAX_COUNT):
        return False
    return (value[4] is None or is_place(value[4])) and is_unit(value[5])


def _is_quiet_letter(value):
    """Whether the value is a quiet letter, its first word left aside."""
    if len(value) != 4 or not is_word(value[1]):
        return False
    return _is_within(value[2], 0, MAX_MADE) and _is_within(value[3], 0, MAX_COUNT)


def is_letter(value):
    """Whether the value is a letter."""
    word = first_word(value)
    if word == "deed":
        return _is_deed_letter(value)
    return word == "quiet" and _is_quiet_letter(value)


def _do_rise(one, other):
    """Whether of two letters the one that tells more units has the greater count, too."""
    return one[2] < other[2] and one[3] < other[3] or one[2] > other[2] and one[3] > other[3]


def _agree(one, other):
    """Whether two letters of one writer go together."""
    if one == other:
        return True
    if one[0] == other[0]:
        return _do_rise(one, other) or (one[0] == "quiet" and one[2] == other[2])
    deed, quiet = (one, other) if one[0] == "deed" else (other, one)
    # Units up to the number that a quiet letter tells have counts up to its own, and no others have.
    return (deed[2] <= quiet[2]) == (deed[3] <= quiet[3])


def does_join(letters, letter):
    """Whether a letter goes together with each of some letters."""
    return all([_agree(each, letter) for each in letters if each[1] == letter[1]])


def are_letters(value):
    """Whether the value is a tuple of letters that go together."""
    if not isinstance(value, tuple) or not all([is_letter(each) for each in value]):
        return False
    return all([does_join(value[:at], letter) for at, letter in enumerate(value)])


def known_stamp(letter):
    """The stamp of a known letter, or None."""
    return (letter[3], letter[1]) if letter[0] == "deed" else None


def stamp_of(letter):
    """The stamp of a letter, or None for a quiet one."""
    if not is_letter(letter):
        raise InvalidLetter(letter)
    return known_stamp(letter)


def need_right_tree(schema, tree):
    """Refuses what is no schema, or no right tree by it."""
    if not is_right(schema, tree):
        raise InvalidTree(tree)


def first_state(tree):
    """The state ahead of all units: the pair of the first tree and the dict of the used numbers."""
    return {number: tree[number] for number in sorted(tree)}, {number: True for number in tree}


def next_state(schema, state, letter):
    """The pair of the state behind the unit of a letter, and the fate of the unit."""
    tree, used = state
    told = known_done_by(schema, tree, present(tree, letter[4]), letter[5], used)
    if told[0] == "fallen":
        return state, told[:3]
    added = {deed[1]: True for deed in letter[5] if deed[0] == "add"}
    return (told[1], {**used, **added}), ("stands",)


def _need_letters(letters):
    """Refuses what are no letters that go together."""
    if not are_letters(letters):
        raise InvalidLetter(letters)


def _by_stamps(letters):
    """The letters that tell units, by their stamps, which ascend."""
    table = {known_stamp(letter): letter for letter in letters if letter[0] == "deed"}
    return {stamp: table[stamp] for stamp in sorted(table)}


def fold(schema, tree, letters):
    """The pair of the tree behind all units, and their fates by their stamps."""
    need_right_tree(schema, tree)
    _need_letters(letters)
    state = first_state(tree)
    fates = {}
    table = _by_stamps(letters)
    for stamp in table:
        state, fates[stamp] = next_state(schema, state, table[stamp])
    return state[0], fates


def need_names(names):
    """Refuses what are no names of writers."""
    if not are_ascending_words(names) or not 1 <= len(names) <= MAX_WRITERS:
        raise InvalidOperation(names)


def _sure_count(letters, name):
    """The sure count of a writer."""
    counts = {letter[2]: letter[3] for letter in letters if letter[:2] == ("deed", name)}
    run = 0
    while run + 1 in counts:
        run += 1
    quiets = [letter[3] for letter in letters if letter[:2] == ("quiet", name) and letter[2] <= run]
    return max([counts.get(run, 0), *quiets])


def known_horizon(names, letters):
    """The horizon of known letters."""
    return min([(_sure_count(letters, name) + 1, name) for name in names])


def _need_letters_of(names, letters):
    """Refuses what are no names of writers, or no letters of these that go together."""
    need_names(names)
    _need_letters(letters)
    if any([letter[1] not in names for letter in letters]):
        raise InvalidLetter(letters)


def horizon(names, letters):
    """The least pair (count, name) that the stamp of a unit still to come can have."""
    _need_letters_of(names, letters)
    return known_horizon(names, letters)


def settled(names, letters):
    """The stamps that are settled, ascending."""
    _need_letters_of(names, letters)
    bound = known_horizon(names, letters)
    return tuple([stamp for stamp in _by_stamps(letters) if stamp < bound])
