"""Lending: which priority a thread has by others, who pays for it, and when it runs again."""

from clankernel.checks import is_tuple_of, is_within
from clankernel.errors import BadTicks
from clankernel.hanging import chains_on, payer_chain
from clankernel.turns import MOST_TICKS, Play, ranks_of, tasks_of_round


def lent(turns, thread):
    turns.check_thread(thread)
    best = None
    for chain in chains_on(_hangs(turns), thread):
        if best is None or turns.threads[chain[-1]][1] > turns.threads[best[-1]][1]:
            best = chain
    return (turns.threads[best[-1]][1], best)


def shows_lent(turns, thread, value):
    priority, _ = lent(turns, thread)
    if not is_tuple_of(value, 2) or type(value[0]) is not int or value[0] != priority:
        return False
    chain = value[1]
    if type(chain) is not tuple or not all([is_within(told, 0, len(turns.threads) - 1) for told in chain]):
        return False
    if len(set(chain)) < len(chain) or chain[:1] != (thread,):
        return False
    hangs = _hangs(turns)
    if not all([hangs.get(chain[at]) == chain[at - 1] for at in range(1, len(chain))]):
        return False
    return turns.threads[chain[-1]][1] == priority


def payer(turns, thread):
    turns.check_thread(thread)
    chain = payer_chain(turns.callers(), thread)
    return (chain[-1], chain)


def runs_again(turns, thread):
    turns.check_thread(thread)
    if thread not in turns.row or not _has_ticks(turns, thread):
        return ("never", ())
    ahead = _ahead_of(turns, thread)
    if ahead:
        return ("never", ahead)
    play = Play(turns)
    ticks = 0
    while play.chosen() != thread:
        play.tick_on()
        ticks = ticks + 1
    return ("within", ticks)


def shares(turns, ticks):
    if not is_within(ticks, 0, MOST_TICKS):
        raise BadTicks(ticks)
    play = Play(turns)
    ran = [play.tick_on() for _ in range(ticks)]
    paid = [None if thread is None else play.payers[thread] for thread in ran]
    return tuple([(ran.count(thread), paid.count(thread)) for thread in range(len(turns.threads))])


def _hangs(turns):
    return {thread: turns.links[thread][1] for thread in turns.links}


def _has_ticks(turns, thread):
    """Whether some ticks are those of the task of a thread; by slices alone all are."""
    return not turns.shifts or turns.threads[thread][0] in tasks_of_round(turns.shifts)


def _ahead_of(turns, thread):
    """The threads that always keep this one from running while they are ready."""
    ranks = ranks_of(turns)
    ahead = [other for other in turns.row if ranks[other] > ranks[thread]]
    if turns.shifts:
        ahead = [other for other in ahead if turns.threads[other][0] == turns.threads[thread][0]]
    return tuple(sorted(ahead))
