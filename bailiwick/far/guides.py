"""Guides: they ask servers, and follow what these refer to, until they can answer a question."""

from bailiwick.ask.search import SCOPES, Search
from bailiwick.base.words import are_pairs, is_word
from bailiwick.errors import InvalidOperation, UnknownName
from bailiwick.far.holdings import Server, known_cut, need_plan


def _names_told(server):
    """The names of the servers that a server names."""
    told = list(server.cuts().values())
    return told if server.above is None else [server.above, *told]


def _are_servers(value):
    """Whether the value is a dict from words to servers with these names, in which no server lacks."""
    if not isinstance(value, dict) or not all([isinstance(value[name], Server) for name in value]):
        return False
    # The names of servers are words.
    if any([value[name].name != name for name in value]):
        return False
    return all([told in value for name in value for told in _names_told(value[name])])


class Guide:
    """A guide: it knows servers by their names."""

    def __init__(self, servers):
        if not _are_servers(servers):
            raise InvalidOperation(servers)
        self._servers = {name: servers[name] for name in sorted(servers)}

    @property
    def names(self):
        """The names of the servers, ascending."""
        return tuple(self._servers)

    def ask(self, first, name, search):
        """Answers a question, and tells what was asked of which servers for it."""
        asked = []
        answer = self._led(first, name, search, asked)
        if answer[0] == "missing":
            return (*answer, tuple(asked))
        rows = list(answer[1])
        ahead = list(answer[2])
        while ahead != []:
            server, lower, scope = ahead.pop(0)
            _, found, more = self._led(server, lower, _with_scope(search, scope), asked)
            rows.extend(found)
            ahead.extend(more)
        return ("found", tuple(sorted(rows)), tuple(asked))

    def place_of(self, first, name):
        """The name of the server in whose holding a name stands, or the last entry that is there on its way."""
        asked = []
        self._led(first, name, Search(0, "base"), asked)
        return asked[-1][0]

    def _led(self, first, name, search, asked):
        """The answer to which the referrals of a question lead; what was asked is put to a list."""
        if not is_word(first) or first not in self._servers:
            raise UnknownName(first)
        server = self._servers[first]
        answer = server.ask(name, search)
        asked.append((server.name, name, search.scope))
        while answer[0] == "refer":
            server = self._servers[answer[1]]
            answer = server.ask(answer[2], search)
            asked.append((server.name, name, search.scope))
        return answer


def _with_scope(search, scope):
    """The same search for servers with another scope."""
    return Search(0, scope, where=search.where, types=search.types)


def _is_step(value):
    """Whether the value is a triple (server, name, scope); whether there is such a server is not asked."""
    if not isinstance(value, tuple) or len(value) != 3:
        return False
    return are_pairs(value[1]) and value[2] in SCOPES


def is_trace(schema, tree, plan, value):
    """Whether the value is all that a guide asks for its first triple."""
    need_plan(schema, tree, plan)
    if not isinstance(value, tuple) or value == () or not _is_step(value[0]):
        return False
    first, name, scope = value[0]
    guide = Guide(known_cut(schema, tree, plan))
    if first not in guide.names:
        return False
    return guide.ask(first, name, Search(0, scope))[2] == value
