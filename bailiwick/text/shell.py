"""A shell, which does lines at a directory for somebody."""

from bailiwick.ask.search import Search, known_found
from bailiwick.base.names import name_text
from bailiwick.base.words import are_signs
from bailiwick.errors import InvalidOperation, InvalidText, Refused
from bailiwick.place.groups import is_group, known_members
from bailiwick.place.rights import Asker
from bailiwick.place.views import known_done_by, known_view
from bailiwick.text.commands import Misfit, read_command
from bailiwick.text.lines import known_record
from bailiwick.tree.directory import Directory
from bailiwick.tree.trees import known_name, known_number

MOST_SIGNS = 400
DEEDS = ("add", "put", "drop", "clear", "raise", "remove", "move")
WORDS = "error words"
ABSENT = "error absent"
DENIED = "error denied"


def _numbers_text(numbers):
    """The text of some numbers."""
    return " ".join([str(number) for number in numbers]) if list(numbers) != [] else "none"


def _name(schema, tree, told):
    """The answer to a line that asks for a name."""
    return name_text(known_name(tree, told[0]))


def _number(schema, tree, told):
    """The answer to a line that asks for the number of a name."""
    number = known_number(schema, tree, told[0])
    return "none" if number is None else str(number)


def _show(schema, tree, told):
    """The answer to a line that asks for a record."""
    return known_record(told[0], tree[told[0]])[:-1].replace("\n", "/")


def _find(schema, tree, told):
    """The answer to a line that searches."""
    _, numbers = known_found(schema, tree, Search(told[1], told[0], where=told[2]))
    return _numbers_text(numbers)


def _members(schema, tree, told):
    """The answer to a line that asks for members."""
    if not is_group(schema, tree, told[0]):
        return WORDS
    return _numbers_text(known_members(schema, tree, told[0]))


# These ask the view of somebody.
QUESTIONS = {"find": _find, "members": _members, "name": _name, "number": _number, "show": _show}


def _deed_of(word, told):
    """The deed of a line that tells one."""
    if word == "add":
        number, above, name, pair = told
        return ("add", number, above, pair, (name,), (pair,))
    if word == "move":
        number, above, keep, pair = told
        return ("move", number, above, pair, keep)
    if word == "remove":
        return ("remove", told[0])
    if word in ("put", "drop"):
        return ("change", told[0], ((word, *told[1]),))
    return ("change", told[0], ((word, *told[1:]),))


class Shell:
    """A shell: a directory, whom it is for, and the lines that it was told.

    `_asker` is whom the last line `as` told; `_since` tells since when its entry was there then, None without one.
    """

    def __init__(self, directory):
        if not isinstance(directory, Directory):
            raise InvalidOperation(directory)
        self._directory = directory
        self._asker = 0
        self._since = None
        self._lines = []

    @property
    def who(self):
        """Whom the shell is for."""
        # Once its entry is gone, it is for nobody known, whether the entry comes back or not.
        return self._asker if self._directory.since.get(self._asker) == self._since else None

    def __len__(self):
        return len(self._lines)

    def __call__(self, line):
        return self.tell(line)

    def tell(self, line):
        """Does a line, and returns the answer."""
        if not are_signs(line, MOST_SIGNS):
            raise InvalidText(line)
        answer = self._answer(line)
        self._lines.append(line)
        return answer

    def _answer(self, line):
        """Does a line of signs, and returns the answer."""
        try:
            word, told, numbers = read_command(line)
        except Misfit:
            return WORDS
        if word == "as":
            return self._turn(told[0])
        if word in ("undo", "redo"):
            return self._go(word)
        schema = self._directory.schema
        seen = known_view(schema, self._directory.tree, self.who)
        if any([number not in seen for number in numbers]):
            return ABSENT
        if word in DEEDS:
            return self._do(_deed_of(word, told))
        if word == "can":
            return self._can(*told)
        action = QUESTIONS[word]
        return action(schema, seen, told)

    def _turn(self, who):
        """Turns the shell to somebody else."""
        since = self._directory.since
        if who is not None and who != 0 and who not in since:
            return ABSENT
        self._asker = who
        self._since = since.get(who)
        return "done"

    def _go(self, word):
        """Goes back or ahead in the history of the directory."""
        if self.who != 0:
            return DENIED
        try:
            place = self._directory.undo() if word == "undo" else self._directory.redo()
        except Refused:
            return "error " + word
        return str(place)

    def _do(self, deed):
        """Does a deed as a unit of its own."""
        unit = (deed,)
        told = known_done_by(self._directory.schema, self._directory.tree, self.who, unit, self._directory.used)
        if told[0] == "fallen":
            return "fallen " + told[2] + " " + str(told[3])
        self._directory.do(unit)
        return "done"

    def _can(self, right, number, word=None):
        """Whether a right is granted."""
        asker = Asker(self._directory.schema, self._directory.tree, self.who)
        return "yes" if asker.is_let(right, number, word) else "no"
