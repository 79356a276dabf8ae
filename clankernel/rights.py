"""Rights: what tasks may name, and of which right each one was made."""

from clankernel.checks import is_lot, is_within, number_in, number_told
from clankernel.errors import (
    BadBadge, BadLetters, BadLot, BadRights, Badged, Empty, Full, Held, NoGate, NoPlace, NoTask, NoThing,
    NotLet, Spent)

MOST_GATES = 12
LAST_NUMBER = 9999


class Rights:
    """Each of rows is (number, task, place, thing, letters, badge, parent)."""

    def __init__(self, text):
        if type(text) is not str:
            raise BadRights(0)
        lines = text.split("\n")
        tasks = number_told(lines, 0, "tasks", (1, 6))
        if tasks is None:
            raise BadRights(1)
        gates = _gates_told(lines, tasks)
        at = len(gates) + 1
        fresh = number_told(lines, at, "next", (0, LAST_NUMBER))
        if fresh is None:
            raise BadRights(at + 1)
        self.text = text
        self.tasks = tasks
        self.gates = gates
        self.next = fresh
        self.rows = _rows_told(lines, at + 1, all_things(tasks, len(gates)), (tasks, fresh))

    def __eq__(self, other):
        return isinstance(other, Rights) and self.text == other.text

    def first(self, task, place, thing):
        self.check_task(task)
        self.check_place(place)
        if not self.has_thing(thing):
            raise NoThing(thing)
        self.check_free(task, place)
        return self.with_right(task, place, (thing, all_letters(thing), None, None))

    def with_gate(self, owner):
        self.check_task(owner)
        if len(self.gates) == MOST_GATES:
            raise Full(MOST_GATES)
        return self.alike((*self.gates, owner), self.next, self.rows)

    def copied(self, task, place, to, letters):
        right = self.right_for(task, place, to)
        _check_letters(right, letters)
        return self.with_right(task, to, (right[3], letters, right[5], right[0]))

    def minted(self, task, place, to, badge):
        right = self.right_for(task, place, to)
        _check_badge(right, badge)
        return self.with_right(task, to, (right[3], right[4], badge, right[0]))

    def handed(self, giver, place, taker, to, letters, badge):
        self.check_task(giver)
        self.check_task(taker)
        self.check_place(place)
        self.check_place(to)
        right = self.right_held(giver, place)
        if "g" not in right[4]:
            raise NotLet(right[4])
        self.check_free(taker, to)
        _check_letters(right, letters)
        if badge is None:
            return self.with_right(taker, to, (right[3], letters, right[5], right[0]))
        _check_badge(right, badge)
        return self.with_right(taker, to, (right[3], letters, badge, right[0]))

    def moved(self, task, place, to):
        right = self.right_for(task, place, to)
        rows = [(*row[:2], to, *row[3:]) if row == right else row for row in self.rows]
        return self.alike(self.gates, self.next, rows)

    def dropped(self, task, place):
        right = self.right_named(task, place)
        left = [row for row in self.rows if row != right]
        rows = [(*row[:6], right[6]) if row[6] == right[0] else row for row in left]
        return self.alike(self.gates, self.next, rows)

    def taken_back(self, task, place):
        right = self.right_named(task, place)
        return self.without(self.numbers_beneath([right[0]]))

    def gone(self, tasks):
        if not is_lot(tasks, 0, self.tasks - 1):
            raise BadLot(tasks)
        things = [f"t{task}" for task in tasks]
        things.extend([f"g{gate}" for gate, owner in enumerate(self.gates) if owner in tasks])
        lost = [row[0] for row in self.rows if row[1] in tasks or row[3] in things]
        return self.without(lost + self.numbers_beneath(lost))

    def check_task(self, value):
        if not is_within(value, 0, self.tasks - 1):
            raise NoTask(value)

    def check_place(self, value):
        if not is_within(value, 0, 15):
            raise NoPlace(value)

    def check_free(self, task, place):
        if self.right_in(task, place) is not None:
            raise Held(place)

    def has_thing(self, value):
        """Whether any value is the name of a gate or a task that there is."""
        return type(value) is str and value in all_things(self.tasks, len(self.gates))

    def right_in(self, task, place):
        """The row of the right in a place of a table, None if none stands there."""
        for row in self.rows:
            if row[1] == task and row[2] == place:
                return row
        return None

    def right_held(self, task, place):
        right = self.right_in(task, place)
        if right is None:
            raise Empty(place)
        return right

    def right_named(self, task, place):
        self.check_task(task)
        self.check_place(place)
        return self.right_held(task, place)

    def right_for(self, task, place, to):
        """The row of a right of which one is to stand in another place of its table."""
        self.check_task(task)
        self.check_place(place)
        self.check_place(to)
        right = self.right_held(task, place)
        self.check_free(task, to)
        return right

    def numbers_beneath(self, numbers):
        """The numbers, ascending, of all rights that came of those with these numbers."""
        found = []
        # A parent stands ahead of its children, so one walk finds all of them.
        for row in self.rows:
            if row[6] in numbers or row[6] in found:
                found.append(row[0])
        return found

    def without(self, numbers):
        """The Rights without these, and they leave no child behind."""
        return self.alike(self.gates, self.next, [row for row in self.rows if row[0] not in numbers])

    def with_right(self, task, place, told):
        """The Rights with one more; told: its thing, letters, badge, parent."""
        if self.next == LAST_NUMBER:
            raise Spent(LAST_NUMBER)
        return self.alike(self.gates, self.next + 1, (*self.rows, (self.next, task, place, *told)))

    def alike(self, gates, fresh, rows):
        """The Rights of the same tasks with these gates, number to come, and rows."""
        lines = [f"tasks {self.tasks}"]
        lines.extend([f"gate {owner}" for owner in gates])
        lines.append(f"next {fresh}")
        lines.extend([_row_line(row) for row in rows])
        return Rights("\n".join(lines))


def all_letters(thing):
    return "sg" if thing[0] == "g" else "cg"


def all_things(tasks, gates):
    """The names of all things, if there are so many tasks and gates."""
    return [f"g{gate}" for gate in range(gates)] + [f"t{task}" for task in range(tasks)]


def right_row(line, things, tasks):
    """The row that a line right tells by its form, None if it has not this form."""
    words = line.split(" ")
    if len(words) != 8 or words[0] != "right" or words[4] not in things:
        return None
    letters = all_letters(words[4])
    if words[5] not in (letters[0], letters):
        return None
    if words[6] != "-" and words[4][0] != "g":
        return None
    badge = None if words[6] == "-" else number_in(words[6], 0, 999)
    parent = None if words[7] == "-" else number_in(words[7], 0, LAST_NUMBER)
    row = (number_in(words[1], 0, LAST_NUMBER), number_in(words[2], 0, tasks - 1), number_in(words[3], 0, 15),
           words[4], words[5], badge, parent)
    if None in row[:3] or (badge is None and words[6] != "-") or (parent is None and words[7] != "-"):
        return None
    return row


def stands_behind(row, ahead):
    """Whether a row can stand behind these: its number, its place, what it came of."""
    if ahead and row[0] <= ahead[-1][0]:
        return False
    if any([other[1:3] == row[1:3] for other in ahead]):
        return False
    if row[6] is None:
        return True
    for other in ahead:
        if other[0] == row[6]:
            return _came_of(row, other)
    return False


def _came_of(row, parent):
    if row[3] != parent[3] or not all([letter in parent[4] for letter in row[4]]):
        return False
    return parent[5] is None or row[5] == parent[5]


def _gates_told(lines, tasks):
    gates = []
    for at in range(1, min(len(lines), MOST_GATES + 1)):
        owner = number_told(lines, at, "gate", (0, tasks - 1))
        if owner is None:
            return tuple(gates)
        gates.append(owner)
    return tuple(gates)


def _rows_told(lines, start, things, bounds):
    tasks, fresh = bounds
    rows = []
    for at in range(start, len(lines)):
        row = right_row(lines[at], things, tasks)
        if row is None or row[0] >= fresh or not stands_behind(row, rows):
            raise BadRights(at + 1)
        rows.append(row)
    return tuple(rows)


def _row_line(row):
    number, task, place, thing, letters, badge, parent = row
    badged = "-" if badge is None else badge
    came = "-" if parent is None else parent
    return f"right {number} {task} {place} {thing} {letters} {badged} {came}"


def _check_letters(right, letters):
    whole = all_letters(right[3])
    if type(letters) is not str or letters not in (whole[0], whole):
        raise BadLetters(letters)
    if len(letters) > len(right[4]):
        raise BadLetters(letters)


def _check_badge(right, badge):
    if right[3][0] == "t":
        raise NoGate(right[3])
    if right[5] is not None:
        raise Badged(right[5])
    if not is_within(badge, 0, 999):
        raise BadBadge(badge)
