"""Copies: trees that catch up with a row by its messages."""

from bailiwick.base.words import first_word, is_number, is_place, is_word
from bailiwick.copy.rows import Row, are_changes, behind_changes, is_cookie
from bailiwick.errors import InvalidOperation, Refused
from bailiwick.tree.trees import is_plain_entry


def _is_changes(value):
    """Whether the value tells that changes follow, its first word left aside."""
    return len(value) == 3 and is_word(value[1]) and is_place(value[2])


def _is_all(value):
    """Whether the value tells that all entries follow, its first word left aside."""
    return len(value) == 2 and is_word(value[1])


def _is_step(value):
    """Whether the value tells a difference, its first word left aside."""
    return len(value) == 2 and are_changes(value[1])


def _is_there(value):
    """Whether the value tells an entry by its number alone, its first word left aside."""
    return len(value) == 2 and is_number(value[1])


def _is_put(value):
    """Whether the value tells an entry, its first word left aside."""
    return len(value) == 3 and is_number(value[1]) and is_plain_entry(value[2])


def _is_done(value):
    """Whether the value tells a cookie, its first word left aside."""
    return len(value) == 2 and is_cookie(value[1])


MESSAGES = {
    "all": _is_all,
    "changes": _is_changes,
    "done": _is_done,
    "put": _is_put,
    "step": _is_step,
    "there": _is_there,
}


def _is_message(value):
    """Whether the value has the form of a message."""
    word = first_word(value)
    if word not in MESSAGES:
        return False
    action = MESSAGES[word]
    return action(value)


class Copy:
    """A tree, the cookie of what it is a copy of, and the catching up that is open.

    `_opened` is the message that opened it, or None; `_heard` are the entries that were put and there behind it.
    """

    def __init__(self):
        self._entries = {}
        self._cookie = None
        self._opened = None
        self._heard = {}

    @property
    def cookie(self):
        """The cookie of what was heard, or None."""
        return self._cookie

    @property
    def is_open(self):
        """Whether a catching up is open."""
        return self._opened is not None

    def entries(self):
        """The tree."""
        return dict(self._entries)

    def hear(self, message):
        """Hears a message."""
        if not _is_message(message):
            raise InvalidOperation(message)
        if not self._can_stand(message):
            raise Refused(message[0])
        word = message[0]
        if word in ("all", "changes"):
            self._opened = message
            self._heard = {}
        elif word == "step":
            self._entries = behind_changes(self._entries, message[1])
            self._cookie = (self._cookie[0], self._cookie[1] + 1)
        elif word == "done":
            self._close(message[1])
        else:
            self._heard[message[1]] = message[2] if word == "put" else self._entries[message[1]]

    def catch_up(self, row):
        """Hears all messages of a row from its cookie on, and returns how many these were."""
        if not isinstance(row, Row):
            raise InvalidOperation(row)
        elder = (self._entries, self._cookie, self._opened, self._heard)
        messages = row.messages(self._cookie)
        try:
            for message in messages:
                self.hear(message)
        except Refused:
            # Of a row that only has the identity of another one nothing is heard.
            self._entries, self._cookie, self._opened, self._heard = elder
            raise
        return len(messages)

    def _can_stand(self, message):
        """Whether a message can stand here."""
        word = message[0]
        if word == "all":
            return True
        if word == "changes":
            return message[1:] == self._cookie
        if self._opened is None:
            return False
        if word == "done":
            return self._can_close(message[1])
        if word == "step":
            return self._opened[0] == "changes" and behind_changes(self._entries, message[1]) is not None
        if self._opened[0] != "all" or message[1] in self._heard:
            return False
        return word == "put" or self._has_there(message[1])

    def _has_there(self, number):
        """Whether it has an entry of which the opened row can tell that it is there."""
        # What has entries has a cookie, too.
        return number in self._entries and self._opened[1] == self._cookie[0]

    def _can_close(self, cookie):
        """Whether what is open can be closed with a cookie."""
        return cookie[0] == self._opened[1] and (self._opened[0] == "all" or cookie == self._cookie)

    def _close(self, cookie):
        """Closes what is open with a cookie."""
        if self._opened[0] == "all":
            self._entries = {number: self._heard[number] for number in sorted(self._heard)}
        self._cookie = cookie
        self._opened = None
        self._heard = {}
