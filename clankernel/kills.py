"""Kills: what goes with a task, what still points at tasks, and how a kill is done at a kernel."""

from clankernel.checks import is_lot
from clankernel.errors import BadTasks, Root
from clankernel.meeting import gone
from clankernel.results import DONE, REFUSED, result_number
from clankernel.waiting import GONE

LAST_TASK = 999


def goes(kernel, task):
    kernel.clans.check_task(task)
    if task == 0:
        raise Root(0)
    return lot_with(kernel, task)


def pointing(kernel, tasks):
    if not is_lot(tasks, 0, LAST_TASK):
        raise BadTasks(tasks)
    passings = [kernel.passing(thread) for thread in range(len(kernel.waits))]
    return names_of_pointing(kernel, tasks, passings)


def lot_with(world, task):
    """The tasks, threads and gates that go with a task: of a kernel, or as it stands."""
    tasks = sorted([task, *world.clans.tasks_beneath(task)])
    threads = threads_of(world, tasks)
    return (tuple(tasks), threads, gates_of(world, threads))


def threads_of(world, tasks):
    return tuple([thread for thread, told in enumerate(world.turns.threads) if told[0] in tasks])


def gates_of(world, threads):
    return tuple([gate for gate, owner in enumerate(world.waits.owners) if owner in threads])


def names_of_pointing(world, tasks, passings):
    """The names of what points at these tasks; passings: the passing right of each thread, or None."""
    threads = threads_of(world, tasks)
    gates = gates_of(world, threads)
    things = [f"t{task}" for task in tasks] + [f"g{gate}" for gate in gates]
    row, links = world.turns.row, world.turns.links
    held = [(thread, told) for thread, told in enumerate(passings) if told is not None]
    found = {
        "clans": any([task in tasks for task in world.clans.tasks]),
        "devices": any([told[0] in gates for told in world.devices.rows]),
        "passing": any([thread in threads or told[0] in gates for thread, told in held]),
        "rights": any([right[1] in tasks or right[3] in things for right in world.rights.rows]),
        "spaces": any([page[0] in tasks for page in world.spaces.pages]),
        "turns": any([thread in threads for thread in [*row, *links, *[link[1] for link in links.values()]]]),
        # Who is gone owes nothing, and nobody sends over its gates.
        "waits": any([world.waits.state(thread) != GONE for thread in threads]),
    }
    return tuple([name for name in sorted(found) if found[name]])


def kill(scene, caller, task):
    """A kill by who calls: its result where it is refused; else results come as it is done."""
    if task == 0:
        return REFUSED
    stand = scene.stand
    lot = lot_with(stand, task)
    results = _lose_threads(stand, lot[1])
    if caller not in lot[1]:
        results[caller] = DONE
    _drop_passing(stand, lot)
    scene.happen(("killed", lot[0]))
    scene.change_spaces(stand.spaces.gone(lot[0]))
    scene.change_rights(stand.rights.gone(lot[0]))
    stand.devices = stand.devices.gone(lot[2])
    stand.clans = stand.clans.killed(task)
    stand.borders = {other: stand.borders[other] for other in stand.borders if other not in lot[0]}
    scene.changes.append(("gone", lot[1]))
    for thread in sorted(results):
        if results[thread] is None:
            scene.let_rest(thread)
        else:
            scene.result(thread, results[thread])
            scene.changes.append(("row", thread))
    return None


def _lose_threads(stand, threads):
    """Threads go: of each other one whose wait ends by it the result, None if it faults."""
    later, told = gone(stand.waits, threads)
    results = {}
    for word, thread, half in told:
        results[thread] = None if thread in stand.faults else result_number(word, half)
    stand.waits = later
    stand.drop_ended()
    return results


def _drop_passing(stand, lot):
    """What was meant for gates that go; and passing rights of threads that do."""
    _, threads, gates = lot
    stand.passings = {thread: told for thread, told in stand.passings.items()
                      if thread not in threads and told[0] not in gates}
    stand.meant = {thread: told for thread, told in stand.meant.items() if told[0] not in gates}
