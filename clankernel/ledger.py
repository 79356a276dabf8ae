"""The ledger of what was told: meetings, and which reply is that of which call."""

from clankernel.checks import is_badge, is_within, is_word_tuple
from clankernel.errors import BadTold


def ledger(told):
    if type(told) is not tuple:
        raise BadTold(0)
    for number, row in enumerate(told):
        if not is_told(row):
            raise BadTold(number)
    return tuple([row[1:] for row in told if row[0] == "met"])


def call_pairs(told):
    ledger(told)
    # Of each call the number of its reply; of each caller the open calls, by whom it called.
    replies = {}
    waiting = {}
    number = 0
    for row in told:
        if row[0] != "met":
            waiting[row[1]] = {}
            continue
        _, kind, sender, receiver = row[:4]
        if kind == "called":
            replies[number] = None
            waiting.setdefault(sender, {})[receiver] = number
        if kind == "replied" and sender in waiting.get(receiver, {}):
            replies[waiting[receiver].pop(sender)] = number
        number = number + 1
    return tuple([(call, replies[call]) for call in replies])


def is_told(value):
    """Whether any value is a row that a deed of meeting can tell."""
    if type(value) is not tuple or len(value) == 0:
        return False
    if value[0] == "met":
        return len(value) == 7 and _is_meeting(value)
    if value[0] == "lost":
        return len(value) == 2 and _is_thread(value[1])
    if value[0] not in ("late", "broken", "gone") or len(value) != 3:
        return False
    return _is_thread(value[1]) and value[2] in ("send", "receive")


def _is_meeting(row):
    _, kind, sender, receiver, gate, badge, words = row
    if not _is_thread(receiver) or not is_word_tuple(words, 4):
        return False
    if kind == "device":
        return sender is None and _is_gate(gate) and is_badge(badge)
    if not _is_thread(sender) or sender == receiver:
        return False
    if kind == "replied":
        return gate is None and badge is None
    return kind in ("sent", "called") and _is_gate(gate) and is_badge(badge)


def _is_thread(value):
    return is_within(value, 0, 7)


def _is_gate(value):
    return is_within(value, 0, 11)
