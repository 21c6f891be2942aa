"""Watches: what changes in what a search finds, as the tree changes."""

from bailiwick.ask.search import known_found, known_row, need_endless
from bailiwick.base.names import is_name
from bailiwick.base.words import are_ascending_words, first_word, is_number
from bailiwick.errors import InvalidOperation, InvalidTree
from bailiwick.tree.trees import are_values, is_known_tree, need_tree


def _is_row(value, number):
    """Whether the value is a row of the entry with a number."""
    if not isinstance(value, tuple) or len(value) != 4 or not is_number(value[0]) or value[0] != number:
        return False
    # An entry has a name of one pair at least, and at least one class.
    if not is_name(value[1]) or value[1] == () or not are_ascending_words(value[2]) or value[2] == ():
        return False
    return are_values(value[3])


def is_state(value):
    """Whether the value is a dict from numbers to rows."""
    if not isinstance(value, dict):
        return False
    return all([is_number(number) and _is_row(value[number], number) for number in value])


def is_message(value):
    """Whether the value is a message."""
    word = first_word(value)
    if word == "out":
        return len(value) == 2 and is_number(value[1])
    if word not in ("in", "now"):
        return False
    return len(value) == 3 and is_number(value[1]) and _is_row(value[2], value[1])


def _need_state(value):
    """Refuses what is no state."""
    if not is_state(value):
        raise InvalidOperation(value)


def _known_messages(one, other):
    """The messages between two known states."""
    found = []
    for number in sorted(set(one) | set(other)):
        if number not in other:
            found.append(("out", number))
        elif number not in one:
            found.append(("in", number, other[number]))
        elif one[number] != other[number]:
            found.append(("now", number, other[number]))
    return tuple(found)


def messages_between(one, other):
    """The messages between two states."""
    _need_state(one)
    _need_state(other)
    return _known_messages(one, other)


def _are_messages(value):
    """Whether the value is a tuple of messages whose numbers ascend."""
    if not isinstance(value, tuple) or not all([is_message(each) for each in value]):
        return False
    return all([one[1] < other[1] for one, other in zip(value, value[1:])])


def state_behind(state, messages):
    """The state behind some messages."""
    _need_state(state)
    if not _are_messages(messages):
        raise InvalidOperation(messages)
    if any([(message[0] == "in") == (message[1] in state) for message in messages]):
        raise InvalidOperation(messages)
    behind = dict(state)
    for message in messages:
        if message[0] == "out":
            del behind[message[1]]
        else:
            behind[message[1]] = message[2]
    return {number: behind[number] for number in sorted(behind)}


def _state_of(schema, tree, search):
    """The pair of the word of a search and its state at a known tree."""
    word, numbers = known_found(schema, tree, search)
    return word, {number: known_row(schema, tree, number, search.types) for number in numbers}


class Watch:
    """A search that is asked again and again."""

    def __init__(self, schema, tree, search):
        need_tree(schema, tree)
        need_endless(search)
        self._schema = schema
        self._search = search
        self._word, self._state = _state_of(schema, tree, search)
        self._told = 0

    @property
    def search(self):
        """What is searched for."""
        return self._search

    @property
    def word(self):
        """The word of the search now."""
        return self._word

    @property
    def told(self):
        """How many messages were told."""
        return self._told

    def follow(self, tree):
        """Takes the tree as it is now, and returns the messages between the state as it was and as it is."""
        if not is_known_tree(self._schema, tree):
            raise InvalidTree(tree)
        elder = self._state
        self._word, self._state = _state_of(self._schema, tree, self._search)
        messages = _known_messages(elder, self._state)
        self._told = self._told + len(messages)
        return messages

    def state(self):
        """The state."""
        return dict(self._state)

    def twin(self):
        """An independent watch that goes on alike."""
        other = Watch(self._schema, {}, self._search)
        other._word = self._word
        other._state = dict(self._state)
        other._told = self._told
        return other
