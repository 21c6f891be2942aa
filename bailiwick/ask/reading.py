"""How the texts of filters are read, sign by sign, whatever bounds filters have."""

from bailiwick.errors import ParseError

LETTERS = "abcdefghijklmnopqrstuvwxyz"
DIGITS = "0123456789"
# These signs of a text stand behind a backslash.
SPECIAL = "()*\\"
JUNCTIONS = {"&": "and", "|": "or", "!": "not"}
# Numbers with more digits are beyond the bound, whatever digits follow.
MOST_DIGITS = 14


class Reader:
    """A text of a filter and the index of the sign that is read next.

    Filters that are open are kept in a list, as a text can hold more of them than calls may lie in one another.
    """

    def __init__(self, signs):
        self._signs = signs
        self._index = 0
        self._opened = []

    def is_at(self, let):
        """Whether the next sign is one of these."""
        return self._index < len(self._signs) and self._signs[self._index] in let

    def take(self, let):
        """Reads the next sign, which must be one of these."""
        if not self.is_at(let):
            raise ParseError(self._index)
        self._index += 1
        return self._signs[self._index - 1]

    def take_all(self, first, others):
        """Reads a sign that is one of the first ones, and all of the others behind it."""
        begin = self._index
        self.take(first)
        while self.is_at(others):
            self._index += 1
        return self._signs[begin:self._index]

    def take_text(self):
        """Reads a text of an item up to its end; the empty string if none stands here."""
        found = []
        while self._index < len(self._signs) and not self.is_at("()*"):
            sign = self._signs[self._index]
            self._index += 1
            found.append(self.take(SPECIAL) if sign == "\\" else sign)
        return "".join(found)

    def need_text(self):
        """Reads a text of an item that must stand here."""
        text = self.take_text()
        if text == "":
            raise ParseError(self._index)
        return text

    def take_equal(self, word):
        """Reads what follows a type and the sign of equality."""
        texts = [self.take_text()]
        while self.is_at("*"):
            self._index += 1
            texts.append(self.take_text())
            # Behind a star without a text only the end can stand.
            if texts[-1] == "":
                break
        if texts == [""]:
            raise ParseError(self._index)
        if len(texts) == 1:
            return ("is", word, texts[0])
        if texts == ["", ""]:
            return ("has", word)
        return ("pieces", word, texts[0], tuple(texts[1:-1]), texts[-1])

    def take_item(self):
        """Reads an item, and the sign that ends it."""
        if self.is_at(":"):
            self._index += 1
            item = ("class", self.take_all(LETTERS, LETTERS + DIGITS))
        elif self.is_at("#"):
            self._index += 1
            item = ("within", int(self.take_all(DIGITS[1:], DIGITS)[:MOST_DIGITS]))
        else:
            word = self.take_all(LETTERS, LETTERS + DIGITS)
            sign = self.take("=<>")
            if sign == "=":
                item = self.take_equal(word)
            else:
                self.take("=")
                item = ("from" if sign == ">" else "to", word, self.need_text())
        self.take(")")
        return item

    def take_end(self):
        """Reads the end of the innermost open filter, and returns this filter."""
        self.take(")")
        word, parts = self._opened.pop()
        return ("not", parts[0]) if word == "not" else (word, tuple(parts))

    def take_next(self):
        """Reads an item, or the beginning or the end of another filter; None behind a beginning."""
        if self._opened != []:
            word, parts = self._opened[-1]
            # A not has just one filter, the others as many as stand there.
            if (word == "not" and parts != []) or (word != "not" and self.is_at(")")):
                return self.take_end()
        self.take("(")
        if self.is_at("&|!"):
            self._opened.append((JUNCTIONS[self.take("&|!")], []))
            return None
        return self.take_item()

    def take_filter(self):
        """Reads the whole text."""
        part = None
        while part is None or self._opened != []:
            part = self.take_next()
            if part is not None and self._opened != []:
                word, parts = self._opened[-1]
                parts.append(part)
        if self._index < len(self._signs):
            raise ParseError(self._index)
        return part
