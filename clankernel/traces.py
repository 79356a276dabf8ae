"""Traces: the events of a run, and what they tell."""

from clankernel.checks import is_address, is_lot, is_tuple_of, is_within, is_word
from clankernel.errors import BadEvents, BadNumber
from clankernel.faults import is_fault
from clankernel.ledger import is_told
from clankernel.results import RESULTS, result_word

LAST_TICK = 400
LAST_DEVICE = 3
LAST_CALL = 15
LAST_RIGHT = 9998
# How many parts there are behind the tick and the kind of an event.
PARTS = {
    "rang": 2, "idle": 0, "row": 2, "call": 2, "fault": 2, "met": 6, "string": 3, "pages": 1, "rights": 1,
    "passing": 4, "killed": 1, "result": 2, "rests": 1,
}


def words_to(events, thread):
    _check_events(events)
    if not is_thread(thread):
        raise BadNumber(thread)
    return tuple([event[7] for event in events if event[1] == "met" and event[4] == thread])


def told_rows(events):
    _check_events(events)
    rows = [_told_row(event) for event in events]
    return tuple([row for row in rows if row is not None])


def _told_row(event):
    """The row that a ledger takes of an event, None if it takes none."""
    if event[1] == "met":
        return event[1:]
    if event[1] != "result" or not 1 <= event[3] <= 7:
        return None
    word, half = result_word(event[3])
    return (word, event[2]) if half is None else (word, event[2], half)


def _check_events(value):
    if type(value) is not tuple or not all([_is_event(event) for event in value]):
        raise BadEvents(value)


def _is_event(value):
    if type(value) is not tuple or len(value) < 2 or not is_within(value[0], 1, LAST_TICK):
        return False
    if type(value[1]) is not str or value[1] not in PARTS or len(value) != 2 + PARTS[value[1]]:
        return False
    return _are_parts(value[1], value[2:])


def _are_parts(kind, parts):
    """Whether so many values are the parts of an event of this kind."""
    match kind:
        case "idle":
            return True
        case "rang":
            return is_within(parts[0], 0, LAST_DEVICE) and is_word(parts[1])
        case "met":
            return is_told(("met", *parts))
        case "string":
            return is_thread(parts[0]) and is_thread(parts[1]) and parts[0] != parts[1] and is_within(parts[2], 1, 16)
        case "pages":
            return _are_places(parts[0])
        case "rights":
            return is_lot(parts[0], 0, LAST_RIGHT) and parts[0] != ()
        case "killed":
            return is_lot(parts[0], 1, 5) and parts[0] != ()
    return is_thread(parts[0]) and _is_told_of(kind, parts[1:])


def _is_told_of(kind, parts):
    """Whether these stand behind the thread in an event of this kind."""
    match kind:
        case "row":
            return is_address(parts[0])
        case "call":
            return is_within(parts[0], 0, LAST_CALL)
        case "fault":
            return is_fault(parts[0])
        case "passing":
            gate, badge, task = parts
            return is_within(gate, 0, 11) and (badge is None or is_within(badge, 0, 999)) and is_within(task, 0, 5)
        case "result":
            return is_within(parts[0], 0, len(RESULTS) - 1) and RESULTS[parts[0]] is not None
    return True


def is_thread(value):
    return is_within(value, 0, 7)


def _are_places(value):
    """Whether any value is an ascending tuple of places, one at least."""
    if type(value) is not tuple or value == ():
        return False
    if not all([is_tuple_of(place, 2) and is_within(place[0], 0, 5) and is_within(place[1], 0, 15) for place in value]):
        return False
    return all([value[at - 1] < value[at] for at in range(1, len(value))])
