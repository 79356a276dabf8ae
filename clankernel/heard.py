"""What can be heard: ways from one task to another, chains of them, and lots that hear nothing."""

from clankernel.checks import is_lot, is_tuple_of
from clankernel.errors import BadTruth, Same
from clankernel.havings import Realm, has_letters
from clankernel.pages import chain_of
from clankernel.places import right_chain


def ways_between(rights, clans, spaces, by_table, one, other):
    hearing = _hearing_asked((rights, clans, spaces), by_table, one, other)
    if one == other:
        raise Same(one)
    return hearing.ways(one, other)


def heard(rights, clans, spaces, by_table, one, other):
    hearing = _hearing_asked((rights, clans, spaces), by_table, one, other)
    chains = hearing.chains_from(one)
    if other in chains:
        return ("heard", chains[other])
    return ("never", tuple([task for task in range(rights.tasks) if task not in chains]))


def shows_heard(rights, clans, spaces, by_table, one, other, value):
    hearing = _hearing_asked((rights, clans, spaces), by_table, one, other)
    if not is_tuple_of(value, 2):
        return False
    if value[0] == "heard":
        return _is_chain(hearing, value[1], one, other)
    if value[0] != "never" or not is_lot(value[1], 0, rights.tasks - 1):
        return False
    lot = value[1]
    if other not in lot or one in lot:
        return False
    outside = [task for task in range(rights.tasks) if task not in lot]
    return not any([hearing.ways(task, inside) for task in outside for inside in lot])


class Hearing:
    """What there is between tasks, all of them free."""

    def __init__(self, realm, by_table):
        self.realm = realm
        self.by_table = by_table
        self.tasks = tuple(range(realm.rights.tasks))
        # What each task can ever have, and with which it is linked by that.
        self.havings = realm.first_havings()
        realm.grow(self.tasks, self.havings)
        self.linked = realm.links_by(self.tasks, self.havings)

    def ways(self, one, other):
        """All ways from a task to another one, ascending."""
        found = [("page", frame) for frame in self.frames_between(one, other)]
        found.extend([("control", thing) for thing in self.controls_between(one, other)])
        found.extend([("back", number) for number in self.rights_between(one, other)])
        found.extend([("under", page) for page in self.pages_between(one, other)])
        if other in self.linked[one]:
            found.append(("message",))
        if not self.by_table:
            found.append(("turns",))
        return tuple(sorted(found))

    def frames_between(self, one, other):
        had, told = self.havings[one], self.havings[other]
        return [frame for frame in range(self.realm.spaces.frames)
                if "w" in had.get(frame, "") and any([letter in told.get(frame, "") for letter in "rx"])]

    def controls_between(self, one, other):
        lot = [(f"t{task}", task) for task in self.tasks if has_letters(self.havings[one], f"t{task}", "c")]
        return [thing for thing, task in lot if other in (task, *self.realm.clans.tasks_beneath(task))]

    def rights_between(self, one, other):
        rights = self.realm.rights
        holders = {row[0]: row[1] for row in rights.rows}
        return [number for number in holders if holders[number] == other
                and one in [holders[above] for above in right_chain(rights, number)[1:]]]

    def pages_between(self, one, other):
        spaces = self.realm.spaces
        places = [place for place in spaces.held if place[0] == other]
        return [place[1] for place in places
                if one in [above[0] for above in chain_of(spaces.frames, spaces.held, place)[1:]]]

    def chains_from(self, one):
        """A chain to each task that can be reached from one, as a dict."""
        chains = {one: ()}
        ahead = [one]
        while ahead:
            task = ahead.pop()
            for other in self.tasks:
                if other not in chains and self.ways(task, other):
                    chains[other] = (*chains[task], (task, other, self.ways(task, other)[0]))
                    ahead.append(other)
        return chains


def _hearing_asked(worlds, by_table, one, other):
    rights, clans, spaces = worlds
    realm = Realm(rights, clans, spaces)
    if type(by_table) is not bool:
        raise BadTruth(by_table)
    realm.check_task(one)
    realm.check_task(other)
    return Hearing(realm, by_table)


def _is_chain(hearing, value, one, other):
    """Whether any value is a chain from one to the other."""
    if type(value) is not tuple or not all([is_tuple_of(step, 3) for step in value]):
        return False
    tasks = [one]
    for start, end, way in value:
        if type(start) is not int or type(end) is not int or start != tasks[-1]:
            return False
        if end not in hearing.tasks or end in tasks or not _is_way(hearing, (start, end), way):
            return False
        tasks.append(end)
    return tasks[-1] == other


def _is_way(hearing, pair, value):
    """Whether any value is a way between a pair of tasks: numbers told apart from True and False."""
    if type(value) is not tuple or any([type(part) is bool for part in value]):
        return False
    return value in hearing.ways(pair[0], pair[1])
