"""The kinds of types, the forms of their texts, and patterns of forms."""

from bailiwick.base.numerals import are_plain_digits, read_number
from bailiwick.base.words import is_text
from bailiwick.errors import InvalidOperation, InvalidText, InvalidWord

KINDS = ("exact", "flag", "link", "number", "text")
ORDERED = ("exact", "number", "text")
PIECED = ("exact", "text")
MOST_VALUE = 10 ** 15
MOST_MIDDLES = 8


def _need_kind(kind):
    """Refuses what is no kind."""
    if kind not in KINDS:
        raise InvalidWord(kind)


def _fits_number(text):
    """Whether a text is that of an integer within the bounds."""
    digits = text[1:] if text[0] == "-" else text
    return are_plain_digits(digits) and text != "-0" and int(digits) <= MOST_VALUE


def _fits_exactly(kind, text):
    """Whether a text fits a kind in which each text that fits is its own form."""
    if kind == "number":
        return _fits_number(text)
    if kind == "flag":
        return text in ("yes", "no")
    if kind == "link":
        return read_number(text) is not None
    return kind == "exact"


def known_form(kind, text):
    """The form of what is known to be a text, for a known kind; None if it does not fit."""
    if kind != "text":
        return text if _fits_exactly(kind, text) else None
    form = " ".join(text.lower().split())
    return form if form != "" else None


def form_of(kind, text):
    """The form of a text of a kind, or None if it does not fit."""
    _need_kind(kind)
    if not is_text(text):
        raise InvalidText(text)
    return known_form(kind, text)


def is_fit(kind, value):
    """Whether the value is a text that fits the kind."""
    _need_kind(kind)
    return is_text(value) and known_form(kind, value) is not None


def is_form(kind, value):
    """Whether the value is a form of the kind."""
    _need_kind(kind)
    return is_text(value) and known_form(kind, value) == value


def order_key(kind, form):
    """What a known form of a kind that has an order is ordered by."""
    return int(form) if kind == "number" else form


def is_less(kind, one, other):
    """Whether a form is less than another one of a kind that has an order."""
    _need_kind(kind)
    if kind not in ORDERED:
        raise InvalidOperation(kind)
    for form in (one, other):
        if not is_form(kind, form):
            raise InvalidOperation(form)
    return order_key(kind, one) < order_key(kind, other)


def _is_piece(value):
    """Whether the value can be the first or the last piece of a pattern."""
    return is_text(value) or value == ""


def is_pattern(value):
    """Whether the value is a pattern."""
    if not isinstance(value, tuple) or len(value) != 3:
        return False
    first, middles, last = value
    if not _is_piece(first) or not _is_piece(last):
        return False
    if not isinstance(middles, tuple) or len(middles) > MOST_MIDDLES:
        return False
    return all([is_text(piece) for piece in middles]) and value != ("", (), "")


def _squeezed(piece):
    """A piece with small letters, and one blank for blanks next to one another."""
    piece = piece.lower()
    while "  " in piece:
        piece = piece.replace("  ", " ")
    return piece


def _text_pattern(pattern):
    """The form of a pattern for the kind text, or None if it does not fit."""
    first, middles, last = pattern
    begin = _squeezed(first).lstrip(" ")
    end = _squeezed(last).rstrip(" ")
    if (begin == "" and first != "") or (end == "" and last != ""):
        return None
    return (begin, tuple([_squeezed(piece) for piece in middles]), end)


def pattern_form(kind, pattern):
    """The form of a pattern for a kind, or None if it does not fit."""
    _need_kind(kind)
    if not is_pattern(pattern):
        raise InvalidOperation(pattern)
    if kind == "text":
        return _text_pattern(pattern)
    return pattern if kind == "exact" else None


def can_be_parted(form, pieces):
    """Whether a known form can be parted into the pieces of a pattern's form, with any signs between them."""
    first, middles, last = pieces
    at = len(first)
    end = len(form) - len(last)
    if at > end or not form.startswith(first) or not form.endswith(last):
        return False
    # The leftmost place of a piece leaves the most signs for the pieces behind it.
    for piece in middles:
        found = form.find(piece, at, end)
        if found < 0:
            return False
        at = found + len(piece)
    return True


def does_match(kind, pattern, form):
    """Whether a pattern matches a form of a kind."""
    pieces = pattern_form(kind, pattern)
    if not is_form(kind, form):
        raise InvalidOperation(form)
    return pieces is not None and can_be_parted(form, pieces)
