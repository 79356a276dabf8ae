"""Whether what stands fits together, so that a kernel can stand so."""

from clankernel.checks import is_ascending
from clankernel.errors import BadItems, BadWords
from clankernel.faults import fault_of
from clankernel.items import items_in
from clankernel.kills import names_of_pointing
from clankernel.turns import tasks_of_round
from clankernel.waiting import GONE, READY
from clankernel.ways import straight, way

LAST_TICK = 400
LAST_BADGE = 999
MOST_INPUTS = 12


def is_kernel(stand):
    if not _is_one_size(stand) or not _is_one_time(stand) or not _are_borders(stand):
        return False
    threads = range(len(stand.cells))
    if not all([_is_alive_rightly(stand, thread) and _follows(stand, thread) for thread in threads]):
        return False
    tasks = range(stand.clans.fresh)
    lost = tuple([task for task in tasks if task not in stand.clans])
    if names_of_pointing(stand, lost, [stand.passings.get(thread) for thread in threads]):
        return False
    return all([_is_sending_rightly(stand, thread) and _holds_rightly(stand, thread) for thread in threads])


def _is_one_size(stand):
    """Whether all worlds have the same tasks, threads, gates."""
    many = stand.spaces.tasks
    if stand.rights.tasks != many or stand.clans.fresh != many:
        return False
    threads = stand.turns.threads
    if len(stand.cells) != len(threads) or stand.waits.priorities != tuple([told[1] for told in threads]):
        return False
    if any([told[0] >= many for told in threads]):
        return False
    if stand.rights.gates != tuple([threads[owner][0] for owner in stand.waits.owners]):
        return False
    return all([row[0] is None or row[0] < len(stand.rights.gates) for row in stand.devices.rows])


def _is_one_time(stand):
    """Whether the round goes by the tick, and what is still to come can be."""
    now = stand.waits.now
    ticks = len(tasks_of_round(stand.turns.shifts))
    if now > LAST_TICK or (ticks > 0 and stand.turns.at != now % ticks):
        return False
    told = [row[0] for row in stand.inputs]
    # At the next tick anything may have been told, later on a system alone tells.
    later = [row[:2] for row in stand.inputs if row[0] > now + 1]
    return told == sorted(told) and min([now + 1] + told) > now and is_ascending(later) and len(later) <= MOST_INPUTS


def _are_borders(stand):
    """Whether just the tasks with a border have a border gate, each one an own one."""
    clans = stand.clans
    if sorted(stand.borders) != [task for task in clans.tasks if clans.has_border(task)]:
        return False
    return all([stand.rights.gates[gate] == task for task, gate in stand.borders.items()])


def _is_alive_rightly(stand, thread):
    return (stand.waits.state(thread) == GONE) == (stand.task_of(thread) not in stand.clans)


def _follows(stand, thread):
    """Whether turns follow waits: who is ready may rest, and who receives a reply may call or wait."""
    state, link = stand.waits.state(thread), stand.turns.links.get(thread)
    if state == READY:
        return link is None
    if thread in stand.turns.row:
        return False
    if state[:2] == ("receives", "reply"):
        return link is not None and link[1] == stand.waits.debtor_of(thread)
    owner = stand.waits.owners[state[1]] if state[0] == "sends" else thread
    return link == (None if owner == thread else ("waits", owner))


def _is_sending_rightly(stand, thread):
    """Whether what a thread sends can go over its gate, with its badge, and is meant as is told."""
    state = stand.waits.state(thread)
    if state[0] != "sends":
        return thread not in stand.meant
    gate, badge = state[1:3]
    task = stand.task_of(thread)
    if badge is not None and badge > LAST_BADGE:
        return False
    if thread not in stand.meant:
        return straight(stand.clans, task, stand.rights.gates[gate])
    goal, origin = stand.meant[thread]
    if goal == gate or stand.rights.gates[goal] not in stand.clans or stand.gate_towards(thread, goal) != gate:
        return False
    return origin == task or _comes_by(stand, task, goal, origin)


def _comes_by(stand, task, gate, origin):
    """Whether a message of the origin, meant for this gate, is turned at a task."""
    if origin >= stand.clans.fresh:
        return False
    # Of an origin that has gone no way is known any more.
    return origin not in stand.clans or task in way(stand.clans, origin, stand.rights.gates[gate])[:-1]


def _holds_rightly(stand, thread):
    """Whether a thread can have its passing right, the items that it told, its fault."""
    if thread in stand.passings:
        gate, _, origin = stand.passings[thread]
        border = stand.borders.get(stand.task_of(thread))
        if border is None or stand.waits.owners[border] != thread:
            return False
        if not _comes_by(stand, stand.task_of(thread), gate, origin):
            return False
    if thread in stand.faults:
        return thread not in stand.told_items and _is_told_fault(stand, thread)
    return thread not in stand.told_items or (stand.is_waiting(thread) and _are_items(stand.told_items[thread]))


def _is_told_fault(stand, thread):
    """Whether the fault of a thread is sent, or its answer waited for, without limits."""
    state = stand.waits.state(thread)
    if state[:2] == ("receives", "reply"):
        return state[3] is None
    if state[0] != "sends" or state[5:] != (None, "reply", None):
        return False
    try:
        told = fault_of(state[3])
    except BadWords:
        return False
    return told[0] == stand.faults[thread]


def _are_items(words):
    """Whether words are items, the ending 0 the last of them."""
    try:
        rows = items_in(words)
    except BadItems:
        return False
    return len(words) == 4 * len(rows) + 1
