"""Ways of messages between clans: where they are turned, and where they are barred."""

from clankernel.clans import beneath, clan


def straight(clans, task, other):
    _check_tasks(clans, task, other)
    return other in clan(clans, task) or clans.chief(other) == task or clans.chief(task) == other


def next_stop(clans, task, other):
    if straight(clans, task, other):
        return other
    for stop in clans.tasks:
        near = stop in clan(clans, task) or clans.chief(stop) == task
        if near and stop != task and other in beneath(clans, stop):
            return stop
    return clans.chief(task)


def way(clans, task, other):
    stops = [next_stop(clans, task, other)]
    while stops[-1] != other:
        stops.append(next_stop(clans, stops[-1], other))
    return tuple(stops)


def way_sort(clans, task, other):
    _check_tasks(clans, task, other)
    if task == other:
        return "own"
    kin = clan(clans, task)
    if other in kin:
        return "same"
    return "inner" if any([other in beneath(clans, one) for one in kin]) else "outer"


def passes(clans, task, other):
    stops = way(clans, task, other)
    for stop in stops[:-1]:
        if not clans.has_border(stop):
            return ("barred", stop)
    return ("passes", stops)


def met_by(clans, stop):
    clans.check_task(stop)
    pairs = [(task, other) for task in clans.tasks for other in clans.tasks]
    return tuple([pair for pair in pairs if stop in way(clans, pair[0], pair[1])[:-1]])


def _check_tasks(clans, task, other):
    clans.check_task(task)
    clans.check_task(other)
