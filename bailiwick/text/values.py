"""Value lines: how a type and a text stand in a line."""

from bailiwick.base.words import is_text, is_word


def _needs_code(text):
    """Whether a text stands in strict lines in its code."""
    return text[0] in " =" or text[-1] == " "


def value_line(word, text):
    """The strict line of a type and a text."""
    if not _needs_code(text):
        return word + "=" + text
    return word + "==" + text.replace("\\", "\\\\").replace(" ", "\\_")


def _decoded(signs):
    """The text of a code; None if it is no code."""
    # What is written with two signs is parted first, so that no sign is read as a part of two of them.
    parts = signs.split("\\\\")
    if " " in signs or any(["\\" in part.replace("\\_", "") for part in parts]):
        return None
    return "\\".join([part.replace("\\_", " ") for part in parts])


def _told_text(signs, is_strict):
    """The text that stands behind a type and the sign of equality; None if none can."""
    is_coded = signs.startswith("=")
    text = _decoded(signs[1:]) if is_coded else signs
    if not is_text(text):
        return None
    return None if is_strict and _needs_code(text) != is_coded else text


def read_value(line, is_strict):
    """The pair of the type and the text that a value line tells; None if it is none."""
    word, _, signs = line.partition("=")
    text = _told_text(signs, is_strict) if is_word(word) else None
    return None if text is None else (word, text)
