"""Turns follow waits: what became otherwise in a tick, change by change."""


def turns_behind(turns, changes):
    """The turns behind a tick. Changes are

    ("row", thread): it is ready; ("rest", thread): it rests; ("wait", thread, other): it waits;
    ("call", thread, other): who runs called, and was met by it;
    ("reply", thread, other): who runs replied to the other one; if it does not stay, a change behind tells so;
    ("gone", threads); ("way", thread): who runs gives way.
    """
    now = turns.passed()
    for change in changes:
        now = _changed(now, change)
    return now


def _changed(turns, change):
    match change[0]:
        case "row":
            return _in_row(turns, change[1])
        case "rest":
            return _in_row(turns, change[1]).rest(change[1])
        case "wait":
            return _in_row(turns, change[1]).wait(change[1], change[2])
        case "call":
            return _calling(turns, change[1], change[2])
        case "reply":
            return _replied(turns, change[1], change[2])
        case "gone":
            return turns.gone(change[1])
    return turns.give_way(change[1])


def _in_row(turns, thread):
    return turns if thread in turns.row else turns.ready(thread)


def _calling(turns, thread, other):
    now = turns
    ahead = turns.caller_of(other)
    if ahead is not None:
        now = now.ready(ahead).wait(ahead, other)
    return now.call(thread, other)


def _replied(turns, thread, other):
    if turns.links.get(other) == ("calls", thread):
        return turns.reply(thread, True)
    return _in_row(turns, other)
