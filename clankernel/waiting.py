"""Waits: which threads wait, for what, since when, and who owes whom a reply."""

from clankernel.checks import is_within, line_of, number_in, number_of, number_told
from clankernel.errors import BadWaits, NoGate, NoThread

READY = ("ready",)
GONE = ("gone",)
LAST_TICK = 999999999


class Waits:
    def __init__(self, text):
        if type(text) is not str:
            raise BadWaits(0)
        lines = text.split("\n")
        account = Account()
        for number, line in enumerate(lines, start=1):
            if not account.take(number, line):
                raise BadWaits(number)
        if len(lines) < 3:
            raise BadWaits(len(lines) + 1)
        wrong = account.first_not_owed()
        if wrong is not None:
            raise BadWaits(wrong)
        self.text = text
        self.now = account.now
        self.priorities = account.priorities
        self.owners = account.owners
        self.states = tuple([account.states.get(thread, READY) for thread in range(len(account.priorities))])
        # Of each thread that owes a reply the one to which.
        self.debts = account.debts

    def __eq__(self, other):
        return isinstance(other, Waits) and self.text == other.text

    def __len__(self):
        return len(self.priorities)

    def __contains__(self, value):
        return self.has_thread(value) and self.states[value] != GONE

    def state(self, thread):
        if not self.has_thread(thread):
            raise NoThread(thread)
        return self.states[thread]

    def owes(self, thread):
        if not self.has_thread(thread):
            raise NoThread(thread)
        return self.debts.get(thread)

    def debtor_of(self, thread):
        """Who owes this thread a reply, None without."""
        for debtor in self.debts:
            if self.debts[debtor] == thread:
                return debtor
        return None

    def senders(self, gate):
        if not is_within(gate, 0, len(self.owners) - 1):
            raise NoGate(gate)
        found = []
        for thread, state in enumerate(self.states):
            if state[:2] == ("sends", gate):
                found.append((-self.priorities[thread], state[4], thread))
        return tuple([thread for _, _, thread in sorted(found)])

    def has_thread(self, value):
        """Whether any value is the number of a thread."""
        return is_within(value, 0, len(self.priorities) - 1)

    def is_open(self, gate):
        """Whether the owner of a gate receives from it, or from any."""
        return receives_from(self.states[self.owners[gate]], gate)


class Account:
    """What the lines of a text of waits have told so far."""

    def __init__(self):
        self.now = 0
        self.priorities = ()
        self.owners = ()
        self.states = {}
        self.lines = {}
        self.debts = {}

    def take(self, number, line):
        """Take one line; whether it can stand there."""
        words = line.split(" ")
        if number == 1:
            return self.take_now(line)
        if number == 2:
            return self.take_threads(words)
        if number == 3:
            return self.take_gates(words)
        if words[0] == "owes":
            return self.take_debt(words)
        return self.take_state(number, words)

    def take_now(self, line):
        now = number_told([line], 0, "now", (0, LAST_TICK))
        if now is None:
            return False
        self.now = now
        return True

    def take_threads(self, words):
        priorities = [number_in(word, 0, 7) for word in words[1:]]
        if words[0] != "threads" or not 1 <= len(priorities) <= 8 or None in priorities:
            return False
        self.priorities = tuple(priorities)
        return True

    def take_gates(self, words):
        owners = [self.thread_told(word) for word in words[1:]]
        if words[0] != "gates" or len(owners) > 12 or None in owners:
            return False
        self.owners = tuple(owners)
        return True

    def take_state(self, number, words):
        thread = self.thread_told(words[1]) if len(words) > 1 else None
        # States ascend by threads, and none stands behind what is owed.
        if thread is None or self.debts or any([told >= thread for told in self.states]):
            return False
        state = self.state_told(thread, words)
        if state is None or not self.can_be(thread, state):
            return False
        self.states[thread] = state
        self.lines[thread] = number
        return True

    def take_debt(self, words):
        if len(words) != 3:
            return False
        thread = self.thread_told(words[1])
        other = self.thread_told(words[2])
        if thread is None or other is None or thread == other:
            return False
        if any([told >= thread for told in self.debts]) or self.states.get(thread) == GONE:
            return False
        if not self.awaits_reply(other) or other in list(self.debts.values()):
            return False
        self.debts[thread] = other
        return True

    def first_not_owed(self):
        """The first line whose thread receives a reply that nobody owes, None without."""
        owed = list(self.debts.values())
        for thread, number in self.lines.items():
            if self.awaits_reply(thread) and thread not in owed:
                return number
        return None

    def awaits_reply(self, thread):
        return self.states.get(thread, READY)[:2] == ("receives", "reply")

    def thread_told(self, word):
        return number_in(word, 0, len(self.priorities) - 1)

    def own_gates(self, thread):
        return [gate for gate, owner in enumerate(self.owners) if owner == thread]

    def state_told(self, thread, words):
        """The state that a line tells of a thread by its form, None if it has not this form."""
        if words[0] == "gone":
            return GONE if len(words) == 2 else None
        if words[0] == "receives" and len(words) == 5:
            right = self.is_source(thread, words[2]) and self.is_span(words[3], words[4])
            return ("receives", *[_value_of(word) for word in words[2:]]) if right else None
        if words[0] == "sends" and len(words) == 12 and self.is_sending(thread, words):
            gate, badge, one, two, three, four, since, till, then, limit = [_value_of(word) for word in words[2:]]
            return ("sends", gate, badge, (one, two, three, four), since, till, then, limit)
        return None

    def is_sending(self, thread, words):
        """Whether words 2 to 11 of a line tell what a thread sends."""
        if number_in(words[2], 0, len(self.owners) - 1) is None:
            return False
        if words[3] != "none" and number_in(words[3], 0, 65534) is None:
            return False
        if None in [number_in(word, 0, 65535) for word in words[4:8]]:
            return False
        if not self.is_span(words[8], words[9]):
            return False
        if words[10] == "none":
            return words[11] == "0"
        return self.is_source(thread, words[10]) and (words[11] == "ever" or number_in(words[11], 0, 254) is not None)

    def is_source(self, thread, word):
        return word in ("any", "reply") or number_of(word) in self.own_gates(thread)

    def is_span(self, since, till):
        """Whether two words are a since and a till."""
        if number_in(since, 0, self.now) is None:
            return False
        return till == "ever" or number_in(till, self.now + 1, LAST_TICK) is not None

    def can_be(self, thread, state):
        """Whether a thread can stand so: who sends has not been met, and its owner is not gone."""
        if state[0] == "sends":
            owner = self.owners[state[1]]
            return not self.takes_from(self.states.get(owner, READY), state[1])
        over = [told[1] for told in self.states.values() if told[0] == "sends"]
        return not any([self.takes_from(state, gate) for gate in over if gate in self.own_gates(thread)])

    def takes_from(self, state, gate):
        """Whether the owner of a gate in this state leaves nobody sending over it."""
        return state == GONE or receives_from(state, gate)


def receives_from(state, gate):
    """Whether the owner of a gate, in this state, receives from it, or from any."""
    return state[0] == "receives" and state[1] in ("any", gate)


def waits_text(now, priorities, owners, states, debts):
    """The text of waits that stand so: a state for each thread, and of each that owes to which one."""
    lines = [f"now {now}", line_of("threads", priorities), line_of("gates", owners)]
    lines.extend([_state_line(thread, state) for thread, state in enumerate(states) if state != READY])
    lines.extend([f"owes {thread} {debts[thread]}" for thread in sorted(debts)])
    return "\n".join(lines)


def _state_line(thread, state):
    if state == GONE:
        return f"gone {thread}"
    if state[0] == "receives":
        _, source, since, till = state
        return line_of("receives", (thread, source, since, _word_of(till, "ever")))
    _, gate, badge, words, since, till, then, limit = state
    wait = [since, _word_of(till, "ever"), _word_of(then, "none"), _word_of(limit, "ever")]
    return line_of("sends", [thread, gate, _word_of(badge, "none"), *words, *wait])


def _word_of(value, none):
    """A value as a text has it, with this word in the place of None."""
    return none if value is None else value


def _value_of(word):
    """The integer that a right word tells, None for none and ever, else the word."""
    if word in ("none", "ever"):
        return None
    number = number_of(word)
    return word if number is None else number
