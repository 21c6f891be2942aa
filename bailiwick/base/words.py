"""Signs, texts, words, numbers and pairs, of which all else is built."""

from bailiwick.errors import InvalidWord

MOST_NUMBER = 10 ** 12
MOST_TEXT = 100
MOST_WORD = 12


def is_whole(value):
    """Whether the value is an integer; True and False are none."""
    return isinstance(value, int) and not isinstance(value, bool)


def is_number(value):
    """Whether the value is a number, as entries have it."""
    return is_whole(value) and 1 <= value <= MOST_NUMBER


def is_place(value):
    """Whether the value is a number, or 0 for the root."""
    return is_whole(value) and 0 <= value <= MOST_NUMBER


def are_signs(value, most):
    """Whether the value is a string of at most so many signs."""
    # Of the ASCII characters just the 95 signs are printable.
    return isinstance(value, str) and len(value) <= most and value.isascii() and value.isprintable()


def is_text(value):
    """Whether the value is a text."""
    return are_signs(value, MOST_TEXT) and value != ""


def is_word(value):
    """Whether the value is a word."""
    if not are_signs(value, MOST_WORD) or not value.isalnum():
        return False
    return value == value.lower() and value[0].isalpha()


def need_word(value):
    """Refuses what is no word."""
    if not is_word(value):
        raise InvalidWord(value)


def are_words(value):
    """Whether the value is a tuple of words, in any order."""
    return isinstance(value, tuple) and all([is_word(each) for each in value])


def are_ascending_words(value):
    """Whether the value is a tuple of words that ascend."""
    return are_words(value) and all([one < other for one, other in zip(value, value[1:])])


def are_numbers(value):
    """Whether the value is a tuple of numbers, in any order."""
    return isinstance(value, tuple) and all([is_number(each) for each in value])


def is_pair(value):
    """Whether the value is a pair of a word and a text."""
    return isinstance(value, tuple) and len(value) == 2 and is_word(value[0]) and is_text(value[1])


def are_pairs(value):
    """Whether the value is a tuple of pairs, in any order."""
    return isinstance(value, tuple) and all([is_pair(each) for each in value])


def first_word(value):
    """The word with which a tuple begins; the empty string if the value is no such tuple."""
    if not isinstance(value, tuple) or value == () or not is_word(value[0]):
        return ""
    return value[0]
