"""The names of entries, and the texts of names."""

from bailiwick.base.words import MOST_TEXT, are_pairs, are_signs, is_word
from bailiwick.errors import InvalidName, InvalidText, ParseError

MOST_LEVELS = 8
MOST_SIGNS = 4000
SPECIAL = ",=+\"\\"


def is_name(value):
    """Whether the value is a name."""
    return are_pairs(value) and len(value) <= MOST_LEVELS


def _text_of_value(text):
    """A value of a name as it stands in the text of the name."""
    signs = []
    for at, sign in enumerate(text):
        is_outer = at == 0 or at == len(text) - 1
        if sign in SPECIAL or (sign == " " and is_outer):
            signs.append("\\")
        signs.append(sign)
    return "".join(signs)


def name_text(name):
    """The text of a name."""
    if not is_name(name):
        raise InvalidName(name)
    return ",".join([word + "=" + _text_of_value(text) for word, text in name])


def _behind_blanks(text, at):
    """The index of the first sign from an index on that is no blank."""
    while at < len(text) and text[at] == " ":
        at += 1
    return at


def _read_word(text, at):
    """The pair of the type that stands from an index on, and the index behind its sign of equality."""
    begin = _behind_blanks(text, at)
    end = begin
    while end < len(text) and is_word(text[begin:end + 1]):
        end += 1
    if end == begin:
        raise ParseError(begin)
    at = _behind_blanks(text, end)
    if at == len(text) or text[at] != "=":
        raise ParseError(at)
    return text[begin:end], at + 1


def _read_sign(text, at):
    """The pair of a sign of a value, and the index behind it."""
    if text[at] != "\\":
        if text[at] in SPECIAL:
            raise ParseError(at)
        return text[at], at + 1
    if at + 1 == len(text) or not (text[at + 1] in SPECIAL or text[at + 1] == " "):
        raise ParseError(at + 1)
    return text[at + 1], at + 2


def _read_value(text, at):
    """The pair of the value that stands from an index on, and the index of the comma or end behind it."""
    at = _behind_blanks(text, at)
    value = ""
    while at < len(text) and text[at] != ",":
        # Blanks belong to the value only if a further sign follows.
        begin = _behind_blanks(text, at)
        if begin == len(text) or text[begin] == ",":
            return value, begin
        sign, behind = _read_sign(text, begin)
        blanks = text[at:begin]
        if len(value) + len(blanks) + 1 > MOST_TEXT:
            raise ParseError(begin)
        value = value + blanks + sign
        at = behind
    if value == "":
        raise ParseError(at)
    return value, at


def read_name(text):
    """The name that is read from a text."""
    if not are_signs(text, MOST_SIGNS):
        raise InvalidText(text)
    if text.strip(" ") == "":
        return ()
    pairs = []
    at = -1
    while at < len(text):
        if len(pairs) == MOST_LEVELS:
            raise ParseError(at)
        word, begin = _read_word(text, at + 1)
        value, at = _read_value(text, begin)
        pairs.append((word, value))
    return tuple(pairs)
