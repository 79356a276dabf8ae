"""Turns follow waits: what became otherwise in a tick, change by change."""


def turns_behind(turns, changes):
    """The turns behind a tick. Changes are

    ("row", thread): it is ready; ("rest", thread): it rests; ("wait", thread, other): it waits;
    ("call", thread, other): who runs called, and was met by it;
    ("reply", thread, other, stays): who runs replied to the other one;
    ("gone", threads); ("way", thread): who runs gives way.
    """
    now = turns.passed()
    for change in changes:
        now = _changed(now, change)
    return now


def _changed(turns, change):
    match change[0]:
        case "row":
            return _in_row(turns, change[1])
        case "rest":
            return _resting(turns, change[1])
        case "wait":
            return _waiting(turns, change[1], change[2])
        case "call":
            return _calling(turns, change[1], change[2])
        case "reply":
            return _replied(turns, change[1], change[2], change[3])
        case "gone":
            return turns.gone(change[1])
    return turns.give_way(change[1])


def _in_row(turns, thread):
    return turns if thread in turns.row else turns.ready(thread)


def _resting(turns, thread):
    if thread not in turns.row and thread not in turns.links:
        return turns
    return _in_row(turns, thread).rest(thread)


def _waiting(turns, thread, other):
    # Who calls the other one already goes on to call it.
    if thread in turns.links and turns.links[thread][1] == other:
        return turns
    return _in_row(turns, thread).wait(thread, other)


def _calling(turns, thread, other):
    now = turns
    ahead = turns.caller_of(other)
    if ahead is not None:
        now = now.ready(ahead).wait(ahead, other)
    return now.call(thread, other)


def _replied(turns, thread, other, stays):
    if turns.links.get(other) == ("calls", thread):
        return turns.reply(thread, stays)
    return _in_row(turns, other)
