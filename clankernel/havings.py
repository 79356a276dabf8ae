"""What tasks have, and what deeds can bring them: rights, clans and spaces together.

Havings are, for each task, a dict: of each thing, and of each frame, the letters that it has.
"""

from clankernel.checks import is_ascending, is_lot, is_tuple_of, is_within
from clankernel.errors import BadLetters, BadLot, NoTask, NoThing, OtherTasks
from clankernel.pages import ALL_LETTERS, is_letters
from clankernel.rights import all_letters
from clankernel.ways import way


class Realm:
    """Rights, clans and spaces of the same tasks."""

    def __init__(self, rights, clans, spaces):
        if clans.tasks != tuple(range(rights.tasks)):
            raise OtherTasks(clans)
        if spaces.tasks != rights.tasks:
            raise OtherTasks(spaces)
        self.rights = rights
        self.clans = clans
        self.spaces = spaces

    def check_lot(self, free):
        if not is_lot(free, 0, self.rights.tasks - 1):
            raise BadLot(free)

    def check_task(self, task):
        if not is_within(task, 0, self.rights.tasks - 1):
            raise NoTask(task)

    def check_thing(self, thing, letters):
        """A thing or a frame that there is, and letters of it."""
        if not self.has_thing(thing):
            raise NoThing(thing)
        if not are_letters(thing, letters):
            raise BadLetters(letters)

    def has_thing(self, value):
        """Whether any value is a thing or the number of a frame."""
        return self.rights.has_thing(value) or is_within(value, 0, self.spaces.frames - 1)

    def first_havings(self):
        havings = [{} for _ in range(self.rights.tasks)]
        for _, task, _, thing, letters, _, _ in self.rights.rows:
            add_letters(havings[task], thing, letters)
        for frame in range(self.spaces.frames):
            add_letters(havings[0], frame, ALL_LETTERS)
        for task, _, frame, letters in self.spaces.pages:
            add_letters(havings[task], frame, letters)
        return havings

    def links_by(self, free, havings):
        """Of each task those with which it is linked, both free, by these havings."""
        linked = [[] for _ in havings]
        for task in free:
            for stops in self.courses(free, havings, task):
                for one, other in zip(stops, stops[1:]):
                    if one != other and other not in linked[one]:
                        linked[one].append(other)
                        linked[other].append(one)
        return linked

    def courses(self, free, havings, task):
        """By which tasks messages of a task come, itself first: up to the first that stops them."""
        courses = []
        for gate, owner in enumerate(self.rights.gates):
            if "s" in havings[task].get(f"g{gate}", ""):
                courses.append(self.course(free, task, owner))
        return courses

    def course(self, free, task, owner):
        stops = [task]
        for stop in way(self.clans, task, owner):
            if stop not in free or (stop != owner and not self.clans.has_border(stop)):
                return stops
            stops.append(stop)
        return stops

    def bringing_deeds(self, free, havings):
        """All deeds that can be, by these havings, and bring their taker something, with all the letters there are."""
        linked = self.links_by(free, havings)
        found = []
        for giver, takers in enumerate(linked):
            for thing, letters in havings[giver].items():
                name = "hand" if type(thing) is str else "map"
                if name == "hand" and "g" not in letters:
                    continue
                found.extend([(name, giver, taker, thing, letters) for taker in takers
                              if not has_letters(havings[taker], thing, letters)])
        return found

    def grow(self, free, havings):
        """Do deeds as long as one brings something: the havings grow, and these deeds are told."""
        done = []
        deeds = self.bringing_deeds(free, havings)
        while deeds:
            for deed in deeds:
                add_letters(havings[deed[2]], deed[3], deed[4])
            done.extend(deeds)
            deeds = self.bringing_deeds(free, havings)
        return done

    def can_be(self, free, havings, value):
        """Whether any value is a deed that can be by these havings."""
        if not is_tuple_of(value, 5) or not self.has_thing(value[3]) or not are_letters(value[3], value[4]):
            return False
        name, giver, taker, thing, letters = value
        tasks = range(self.rights.tasks)
        if not all([type(task) is int and task in tasks for task in (giver, taker)]):
            return False
        if name != ("hand" if type(thing) is str else "map"):
            return False
        if name == "hand" and not has_letters(havings[giver], thing, "g"):
            return False
        return has_letters(havings[giver], thing, letters) and taker in self.links_by(free, havings)[giver]

    def is_table(self, value):
        """Whether any value is a table."""
        return is_tuple_of(value, self.rights.tasks) and all([self.is_share(share) for share in value])

    def is_share(self, value):
        """Whether any value is what a table tells of one task: (things, pages)."""
        if not is_tuple_of(value, 2) or not all([self.are_told(rows) for rows in value]):
            return False
        things, pages = value
        return all([type(row[0]) is str for row in things]) and all([type(row[0]) is int for row in pages])

    def are_told(self, value):
        """Whether any value is rows (thing, letters), or of frames, that ascend, no thing twice."""
        if type(value) is not tuple or not all([is_tuple_of(row, 2) for row in value]):
            return False
        if not all([self.has_thing(thing) and are_letters(thing, letters) for thing, letters in value]):
            return False
        things = [row[0] for row in value]
        # Names and numbers cannot be compared.
        return len(set([type(thing) is str for thing in things])) < 2 and is_ascending(things)

    def is_closed(self, free, havings):
        """Whether each task has all that it has, and no deed brings more."""
        for task, told in enumerate(self.first_havings()):
            if not all([has_letters(havings[task], thing, letters) for thing, letters in told.items()]):
                return False
        return not self.bringing_deeds(free, havings)


def are_letters(thing, value):
    """Whether any value is letters of a thing, or of pages for the number of a frame."""
    if type(thing) is int:
        return is_letters(value)
    whole = all_letters(thing)
    return type(value) is str and value in (whole[0], whole)


def has_letters(told, thing, letters):
    return all([letter in told.get(thing, "") for letter in letters])


def add_letters(told, thing, letters):
    whole = ALL_LETTERS if type(thing) is int else all_letters(thing)
    had = told.get(thing, "")
    told[thing] = "".join([letter for letter in whole if letter in had or letter in letters])


def table_of(havings):
    """The table that tells havings."""
    return tuple([(_rows_of(told, True), _rows_of(told, False)) for told in havings])


def havings_of(table):
    """The havings that a table tells."""
    return [{thing: letters for thing, letters in things + pages} for things, pages in table]


def _rows_of(told, names):
    """The rows of all things, or of all frames."""
    return tuple(sorted([(thing, letters) for thing, letters in told.items() if (type(thing) is str) == names]))
