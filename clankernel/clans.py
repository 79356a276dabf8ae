"""Clans: which task made which, and who has a border gate."""

from clankernel.checks import number_in, number_told
from clankernel.errors import BadBorder, BadClans, Full, NoTask, Root, Spent

MOST_TASKS = 6
LAST_NUMBER = 999


class Clans:
    """Each of rows is (task, chief, whether it has a border gate), chief None of task 0."""

    def __init__(self, text):
        if type(text) is not str:
            raise BadClans(0)
        lines = text.split("\n")
        fresh = number_told(lines, 0, "clans", (1, LAST_NUMBER))
        if fresh is None:
            raise BadClans(1)
        rows = []
        for number, line in enumerate(lines[1:], start=2):
            row = task_row(line, fresh)
            if row is None or not _stands_behind(row, rows):
                raise BadClans(number)
            rows.append(row)
        if not rows:
            raise BadClans(2)
        self.text = text
        self.fresh = fresh
        self.rows = tuple(rows)
        self.tasks = tuple([row[0] for row in rows])
        self.chiefs = {task: above for task, above, _ in rows}
        self.borders = {task: border for task, _, border in rows}

    def __eq__(self, other):
        return isinstance(other, Clans) and self.text == other.text

    def __len__(self):
        return len(self.tasks)

    def __contains__(self, value):
        return type(value) is int and value in self.tasks

    def chief(self, task):
        self.check_task(task)
        return self.chiefs[task]

    def has_border(self, task):
        self.check_task(task)
        return self.borders[task]

    def made(self, chief, border):
        self.check_task(chief)
        _check_border(border)
        if len(self.tasks) == MOST_TASKS:
            raise Full(MOST_TASKS)
        if self.fresh == LAST_NUMBER:
            raise Spent(LAST_NUMBER)
        return Clans(_text_of(self.fresh + 1, [*self.rows, (self.fresh, chief, border)]))

    def killed(self, task):
        self.check_task(task)
        if task == 0:
            raise Root(0)
        lost = [task, *self.tasks_beneath(task)]
        return Clans(_text_of(self.fresh, [row for row in self.rows if row[0] not in lost]))

    def bordered(self, task, border):
        self.check_task(task)
        _check_border(border)
        rows = [(*row[:2], border) if row[0] == task else row for row in self.rows]
        return Clans(_text_of(self.fresh, rows))

    def check_task(self, value):
        if value not in self:
            raise NoTask(value)

    def tasks_beneath(self, task):
        found = []
        # A chief stands ahead of those that it made, so one walk finds all of them.
        for other in self.tasks:
            if self.chiefs[other] == task or self.chiefs[other] in found:
                found.append(other)
        return found


def clan(clans, task):
    clans.check_task(task)
    return tuple([other for other in clans.tasks if clans.chiefs[other] == clans.chiefs[task]])


def beneath(clans, task):
    clans.check_task(task)
    return tuple(clans.tasks_beneath(task))


def depth(clans, task):
    clans.check_task(task)
    many = 0
    above = clans.chiefs[task]
    while above is not None:
        many = many + 1
        above = clans.chiefs[above]
    return many


def task_row(line, fresh):
    """What a line task tells by its form: (task, chief, border), None if it has not this form."""
    words = line.split(" ")
    if words[0] != "task" or len(words) != 4 or words[3] not in ("border", "none"):
        return None
    task = number_in(words[1], 0, fresh - 1)
    if words[2] == "-":
        return (0, None, words[3] == "border") if task == 0 else None
    above = number_in(words[2], 0, fresh - 1)
    return None if task is None or above is None else (task, above, words[3] == "border")


def _stands_behind(row, rows):
    """Whether a row can stand behind these: task 0 first, then ascending, each chief ahead."""
    if not rows:
        return row[1] is None
    return row[0] > rows[-1][0] and len(rows) < MOST_TASKS and row[1] in [ahead[0] for ahead in rows]


def _text_of(fresh, rows):
    return "\n".join([f"clans {fresh}"] + [_line_of(row) for row in rows])


def _line_of(row):
    task, above, border = row
    chief = "-" if above is None else above
    word = "border" if border else "none"
    return f"task {task} {chief} {word}"


def _check_border(value):
    if type(value) is not bool:
        raise BadBorder(value)
