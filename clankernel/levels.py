"""Levels: numbers of threads by which no ring of calls ever comes."""

from clankernel.checks import is_lot, is_tuple_of, is_within
from clankernel.errors import BadHabits, NoThread, Ring


def levels(waits, habits):
    calls = _calls(waits, habits)
    ring = _ring(calls)
    if ring is not None:
        return ("ring", ring)
    return ("levels", tuple([len(_longest_from(calls, thread)) - 1 for thread in range(len(calls))]))


def shows_levels(waits, habits, value):
    told = levels(waits, habits)
    if not is_tuple_of(value, 2) or type(value[1]) is not tuple:
        return False
    if not all([type(number) is int for number in value[1]]):
        return False
    if value[0] == "levels":
        return value == told
    return value[0] == "ring" and _is_ring(_calls(waits, habits), value[1])


def longest(waits, habits, thread):
    if not waits.has_thread(thread):
        raise NoThread(thread)
    calls = _calls(waits, habits)
    ring = _ring(calls)
    if ring is not None:
        raise Ring(ring)
    return _longest_from(calls, thread)


def _calls(waits, habits):
    """Of each thread those that it ever calls."""
    if not is_tuple_of(habits, len(waits)):
        raise BadHabits(habits)
    if not all([is_lot(habit, 0, len(waits.owners) - 1) for habit in habits]):
        raise BadHabits(habits)
    return [[waits.owners[gate] for gate in habit] for habit in habits]


def _ring(calls):
    """Threads each of which calls the next one, the last one the first one; None without."""
    # Who calls nobody that is left is in no ring; from all others one is reached.
    left = list(range(len(calls)))
    while any([_is_last(calls, left, thread) for thread in left]):
        left = [thread for thread in left if not _is_last(calls, left, thread)]
    if not left:
        return None
    row = [left[0]]
    while row.count(row[-1]) < 2:
        row.append([other for other in calls[row[-1]] if other in left][0])
    return tuple(row[row.index(row[-1]) + 1:])


def _is_last(calls, left, thread):
    return not any([other in left for other in calls[thread]])


def _longest_from(calls, thread):
    """A longest row of calls from a thread on, where there is no ring."""
    best = ()
    for other in calls[thread]:
        row = _longest_from(calls, other)
        if len(row) > len(best):
            best = row
    return (thread, *best)


def _is_ring(calls, threads):
    """Whether integers are unlike threads, each of which calls the next one, the last one the first one."""
    if threads == () or len(set(threads)) < len(threads):
        return False
    if not all([is_within(thread, 0, len(calls) - 1) for thread in threads]):
        return False
    return all([threads[at] in calls[threads[at - 1]] for at in range(len(threads))])
