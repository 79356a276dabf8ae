"""Servers: programs that answer calls for ever, and what their answers are."""

from clankernel.asm import Program
from clankernel.checks import is_tuple_of, is_within, is_word_tuple
from clankernel.errors import BadCalls, BadServer
from clankernel.server_texts import BODIES, HEAD

MOST_CALLS = 40
MOST_HELD = 8
MOST_NAMES = 8
NO_BADGE = 65535
NONE_HELD = 65534
UNKNOWN = (1, 0, 0, 0)
FULL = (2, 0, 0, 0)
MISSING = (3, 0, 0, 0)
FINE = (0, 0, 0, 0)


def server(name):
    if type(name) is not str or name not in BODIES:
        raise BadServer(name)
    return Program(HEAD + "\n" + BODIES[name])


def served(name, calls):
    if type(name) is not str or name not in BODIES or name == "pager":
        raise BadServer(name)
    if type(calls) is not tuple or len(calls) > MOST_CALLS or not all([_is_call(call) for call in calls]):
        raise BadCalls(calls)
    books = Books()
    return tuple([books.answer(name, badge, words) for badge, words in calls])


def _is_call(value):
    if not is_tuple_of(value, 2) or not is_word_tuple(value[1], 4):
        return False
    return value[0] is None or is_within(value[0], 0, 999)


class Books:
    """What a server knows of the calls ahead."""

    def __init__(self):
        self.total = 0
        self.added = 0
        # What a line holds, first the eldest; what names mean.
        self.held = []
        self.meanings = {}

    def answer(self, name, badge, words):
        match name:
            case "echo":
                return words
            case "counter":
                return self.count_on(words)
            case "line":
                return self.line_up(NO_BADGE if badge is None else badge, words)
        return self.look_up(words)

    def count_on(self, words):
        if words[0] not in (1, 2):
            return UNKNOWN
        ahead = self.total
        if words[0] == 1:
            self.total = (self.total + words[1]) % 65536
            self.added = (self.added + 1) % 65536
        return (0, ahead, self.total, self.added)

    def line_up(self, badge, words):
        if words[0] == 2:
            return self.held.pop(0) if self.held else (NONE_HELD, 0, 0, 0)
        if words[0] != 1:
            return UNKNOWN
        if len(self.held) == MOST_HELD:
            return FULL
        self.held.append((badge, *words[1:]))
        return (0, len(self.held), 0, 0)

    def look_up(self, words):
        how, name, meaning, _ = words
        if how not in (1, 2, 3) or name == 0:
            return UNKNOWN
        if how == 1:
            if name not in self.meanings and len(self.meanings) == MOST_NAMES:
                return FULL
            self.meanings[name] = meaning
            return FINE
        if name not in self.meanings:
            return MISSING
        if how == 2:
            return (0, self.meanings[name], 0, 0)
        del self.meanings[name]
        return FINE
