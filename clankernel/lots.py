"""Lots: threads that wait for one another for ever, and deeds that free those that do not."""

from clankernel.checks import is_ascending, is_lot, is_tuple_of, is_within
from clankernel.errors import BadRoads, Gone, NoThread, Stuck
from clankernel.meeting import gone, till_of
from clankernel.waiting import GONE, READY

LAST_THREAD = 7


def stuck(waits, roads):
    _check_roads(waits, roads)
    return _greatest(Scheme(waits, roads))


def freed(waits, roads, thread):
    scheme = _scheme_for(waits, roads, thread)
    ways = [((other, scheme.begins(other)[0]),) for other in scheme.threads if scheme.begins(other)]
    reached = [way[0][0] for way in ways]
    at = 0
    # The shortest ways come first, and who is in no stuck lot is reached by one.
    while ways[at][-1][0] != thread:
        last = ways[at][-1][0]
        for other in scheme.threads:
            hows = scheme.frees(last, other)
            if hows and other not in reached:
                reached.append(other)
                ways.append((*ways[at], (other, hows[0])))
        at = at + 1
    return ways[at]


def shows_freed(waits, roads, thread, value):
    shortest = freed(waits, roads, thread)
    if not is_tuple_of(value, len(shortest)) or not all([is_tuple_of(row, 2) for row in value]):
        return False
    if not all([type(row[0]) is int for row in value]):
        return False
    scheme = Scheme(waits, roads)
    threads = [row[0] for row in value]
    if not all([other in scheme.threads for other in threads]) or threads[-1] != thread:
        return False
    if value[0][1] not in scheme.begins(threads[0]):
        return False
    return all([value[at][1] in scheme.frees(threads[at - 1], threads[at]) for at in range(1, len(value))])


def least_stuck(waits, roads):
    lots = [()]
    for thread in stuck(waits, roads):
        lots = lots + [(*lot, thread) for lot in lots]
    scheme = Scheme(waits, roads)
    held = [lot for lot in lots if lot != () and scheme.is_stuck(lot)]
    return tuple(sorted([lot for lot in held if not any([_is_less(other, lot) for other in held])]))


def shows_ring(waits, roads, value):
    rings = least_stuck(waits, roads)
    return is_lot(value, 0, LAST_THREAD) and value in rings


def cut_stuck(waits, roads, some):
    _check_roads(waits, roads)
    later, _ = gone(waits, some)
    return len(stuck(later, roads))


class Scheme:
    """Who can free whom, of threads that are not gone."""

    def __init__(self, waits, roads):
        self.waits = waits
        self.roads = roads
        self.threads = [thread for thread in range(len(waits)) if thread in waits]

    def begins(self, thread):
        """What frees a thread without any other one: being ready, a limit, a device."""
        state = self.waits.state(thread)
        if state == READY:
            return ["ready"]
        hows = [] if till_of(state) is None else ["limit"]
        if any([("device", gate) in self.roads for gate in self.sources(thread)]):
            hows.append("device")
        return hows

    def frees(self, thread, other):
        """By what a thread frees another one, once it is free itself."""
        hows = ["break"] if ("break", thread, other) in self.roads else []
        if any([("send", thread, gate) in self.roads for gate in self.sources(other)]):
            hows.append("send")
        state = self.waits.state(other)
        if state[0] == "sends" and self.waits.owners[state[1]] == thread:
            hows.append("receive")
        if self.waits.owes(thread) == other:
            hows.append("reply")
        return hows

    def sources(self, thread):
        """The gates from which a thread receives."""
        gates = [gate for gate, owner in enumerate(self.waits.owners) if owner == thread]
        return [gate for gate in gates if self.waits.is_open(gate)]

    def is_stuck_beside(self, thread, lot):
        """Whether nothing frees a thread, nor anybody outside of a lot."""
        outside = [other for other in self.threads if other not in lot]
        return not self.begins(thread) and not any([self.frees(other, thread) for other in outside])

    def is_stuck(self, lot):
        return all([self.is_stuck_beside(thread, lot) for thread in lot])


def _greatest(scheme):
    """The greatest stuck lot: who is not stuck beside the others goes, until nobody is left to go."""
    lot = scheme.threads
    while not scheme.is_stuck(lot):
        lot = [thread for thread in lot if scheme.is_stuck_beside(thread, lot)]
    return tuple(lot)


def _scheme_for(waits, roads, thread):
    """The scheme of a thread that can be freed."""
    if not waits.has_thread(thread):
        raise NoThread(thread)
    if thread in stuck(waits, roads):
        raise Stuck(thread)
    if waits.state(thread) == GONE:
        raise Gone(thread)
    return Scheme(waits, roads)


def _is_less(lot, other):
    """Whether a lot stands within another one, and is not the same."""
    return lot != other and all([thread in other for thread in lot])


def _check_roads(waits, roads):
    if type(roads) is not tuple or not all([_is_road(waits, road) for road in roads]) or not is_ascending(roads):
        raise BadRoads(roads)


def _is_road(waits, value):
    if type(value) is not tuple or len(value) == 0:
        return False
    gates = len(waits.owners)
    if value[0] == "device":
        return len(value) == 2 and is_within(value[1], 0, gates - 1)
    if len(value) != 3 or not waits.has_thread(value[1]):
        return False
    if value[0] == "break":
        return waits.has_thread(value[2])
    return value[0] == "send" and is_within(value[2], 0, gates - 1)
