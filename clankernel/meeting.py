"""Deeds by which threads meet: each tells the Waits behind it, and what was told by it."""

from clankernel.checks import is_badge, is_lot, is_within, is_word_tuple
from clankernel.errors import (
    BadBadge, BadDeeds, BadLimit, BadLot, BadSource, BadTo, BadWords, CoreError, NoGate, NoReply, NoThread,
    NotReady, NotWaited, NotWaiting)
from clankernel.waiting import GONE, READY, Waits, receives_from, waits_text

# How many values each deed takes that is followed.
DEEDS = {"message": 7, "rung": 3, "ticked": 0, "broken": 1, "gone": 1}
MOST_DEEDS = 400


def message(waits, thread, to, badge, words, limit, source, wait):
    hall = Hall(waits)
    hall.send(thread, to, badge, words, limit, source, wait)
    return hall.outcome()


def rung(waits, gate, badge, words):
    hall = Hall(waits)
    hall.ring(gate, badge, words)
    return hall.outcome()


def ticked(waits):
    hall = Hall(waits)
    hall.tick_on()
    return hall.outcome()


def broken(waits, thread):
    hall = Hall(waits)
    hall.break_off(thread)
    return hall.outcome()


def gone(waits, threads):
    hall = Hall(waits)
    hall.lose(threads)
    return hall.outcome()


def followed(waits, deeds):
    if type(deeds) is not tuple or len(deeds) > MOST_DEEDS:
        raise BadDeeds(0)
    hall = Hall(waits)
    for number, deed in enumerate(deeds):
        if not _is_deed(deed):
            raise BadDeeds(number)
        try:
            _follow(hall, deed)
        except CoreError:
            raise BadDeeds(number) from None
    return hall.outcome()


def _is_deed(value):
    if type(value) is not tuple or len(value) == 0 or type(value[0]) is not str:
        return False
    return value[0] in DEEDS and len(value) == 1 + DEEDS[value[0]]


def _follow(hall, deed):
    values = deed[1:]
    match deed[0]:
        case "message":
            hall.send(*values)
        case "rung":
            hall.ring(*values)
        case "ticked":
            hall.tick_on()
        case "broken":
            hall.break_off(*values)
        case _:
            hall.lose(*values)


class Hall:
    """Waits in the midst of deeds, and what these have told so far."""

    def __init__(self, waits):
        self.now = waits.now
        self.priorities = waits.priorities
        self.owners = waits.owners
        self.states = list(waits.states)
        self.debts = {thread: waits.debts[thread] for thread in waits.debts}
        self.told = []

    def outcome(self):
        later = waits_text(self.now, self.priorities, self.owners, self.states, self.debts)
        return Waits(later), tuple(self.told)

    def send(self, thread, to, badge, words, limit, source, wait):
        self.check_thread(thread)
        if self.states[thread] != READY:
            raise NotReady(thread)
        self.check_halves(thread, (to, badge, words, limit), (source, wait))
        if to == "reply" and thread not in self.debts:
            raise NoReply(thread)
        if to is None:
            self.go_on(thread, None, source, wait)
        elif to == "reply":
            self.meet(("replied", thread, self.debts.pop(thread), None, None, words))
            self.go_on(thread, None, source, wait)
        else:
            self.send_over(thread, to, (badge, words), limit, (source, 0 if source is None else wait))

    def ring(self, gate, badge, words):
        if not self.has_gate(gate):
            raise NoGate(gate)
        _check_carried(badge, words)
        if not self.takes(gate):
            raise NotWaited(gate)
        self.meet(("device", None, self.owners[gate], gate, badge, words))

    def tick_on(self):
        self.now = self.now + 1
        late = [thread for thread, state in enumerate(self.states) if till_of(state) == self.now]
        for thread in late:
            self.end_wait(thread, "late")

    def break_off(self, thread):
        self.check_thread(thread)
        if self.states[thread] in (READY, GONE):
            raise NotWaiting(thread)
        self.end_wait(thread, "broken")

    def lose(self, threads):
        if not is_lot(threads, 0, len(self.states) - 1) or GONE in [self.states[thread] for thread in threads]:
            raise BadLot(threads)
        left = [self.debts[thread] for thread in threads if thread in self.debts]
        for thread, state in enumerate(self.states):
            if state[0] == "sends" and self.owners[state[1]] in threads:
                left.append(thread)
        for thread in sorted(left):
            if thread not in threads:
                self.end_wait(thread, "gone")
        for thread in threads:
            self.states[thread] = GONE
        # What was owed to others ended with their waits.
        self.debts = {thread: other for thread, other in self.debts.items() if other not in threads}

    def check_thread(self, value):
        if not is_within(value, 0, len(self.states) - 1):
            raise NoThread(value)

    def check_halves(self, thread, sent, wanted):
        """The values of a message by its thread: (to, badge, words, limit) and (source, wait)."""
        to, badge, words, limit = sent
        source, wait = wanted
        if to is not None and to != "reply" and not self.has_gate(to):
            raise BadTo(to)
        _check_carried(badge, words)
        if not _is_limit(limit):
            raise BadLimit(limit)
        calls = source == "reply" and self.has_gate(to)
        if source is not None and source != "any" and not calls and not self.is_own_gate(thread, source):
            raise BadSource(source)
        if not _is_limit(wait):
            raise BadLimit(wait)

    def has_gate(self, value):
        """Whether any value is the number of a gate."""
        return is_within(value, 0, len(self.owners) - 1)

    def is_own_gate(self, thread, value):
        """Whether any value is the number of a gate that this thread owns."""
        return self.has_gate(value) and self.owners[value] == thread

    def takes(self, gate):
        """Whether the owner of a gate receives from it, or from any."""
        return receives_from(self.states[self.owners[gate]], gate)

    def till_behind(self, limit):
        """The tick at which a wait with this limit ends that begins now."""
        return None if limit is None else self.now + limit

    def send_over(self, thread, gate, carried, limit, then):
        """The first half over a gate; carried: badge and words; then: the second half and its limit."""
        if self.states[self.owners[gate]] == GONE:
            self.told.append(("gone", thread, "send"))
            return
        met = self.takes(gate)
        if limit == 0 and not met:
            self.told.append(("late", thread, "send"))
            return
        self.states[thread] = ("sends", gate, *carried, self.now, self.till_behind(limit), *then)
        if met:
            self.meet_sender(thread)

    def meet_sender(self, thread):
        """Who sends is met by the owner of its gate, and goes on."""
        _, gate, badge, words, _, _, then, limit = self.states[thread]
        owner = self.owners[gate]
        self.states[thread] = READY
        self.meet(("called" if then == "reply" else "sent", thread, owner, gate, badge, words))
        self.go_on(thread, owner, then, limit)

    def meet(self, row):
        """Words go over: (kind, sender, receiver, gate, badge, words)."""
        self.told.append(("met", *row))
        self.states[row[2]] = READY

    def go_on(self, thread, other, then, limit):
        """A ready thread begins its second half; other is who took its message over a gate."""
        if then is None:
            return
        sender = None if then == "reply" else self.first_sender(thread, then)
        if sender is not None:
            self.meet_sender(sender)
        elif limit == 0:
            self.told.append(("late", thread, "receive"))
        else:
            if then == "reply":
                self.owe(other, thread)
            self.states[thread] = ("receives", then, self.now, self.till_behind(limit))

    def owe(self, thread, other):
        """A thread owes a reply to another one from now on, and to nobody else any more."""
        if thread in self.debts:
            lost = self.debts[thread]
            self.told.append(("lost", lost))
            self.states[lost] = READY
        self.debts[thread] = other

    def first_sender(self, thread, source):
        """Who is met first of all that send over a gate of this thread, or over any of its own."""
        found = []
        for sender, state in enumerate(self.states):
            if state[0] == "sends" and self.owners[state[1]] == thread and source in ("any", state[1]):
                found.append((-self.priorities[sender], state[4], sender))
        return min(found)[2] if found else None

    def end_wait(self, thread, why):
        """A wait ends without a meeting; nobody owes this thread a reply then."""
        self.told.append((why, thread, "send" if self.states[thread][0] == "sends" else "receive"))
        self.states[thread] = READY
        self.debts = {debtor: other for debtor, other in self.debts.items() if other != thread}


def _is_limit(value):
    return value is None or is_within(value, 0, 254)


def _check_carried(badge, words):
    if not is_badge(badge):
        raise BadBadge(badge)
    if not is_word_tuple(words, 4):
        raise BadWords(words)


def till_of(state):
    """The tick at which a wait in this state ends, None if it never does."""
    if state[0] == "sends":
        return state[5]
    return state[3] if state[0] == "receives" else None
