"""Spaces: which pages of which tasks have which frames, and where from."""

from clankernel.checks import is_lot, is_tuple_of, is_within, number_in, number_told
from clankernel.errors import BadBlock, BadLetters, BadOwn, BadSpaces, BadSpot, BadTasks, NoTask
from clankernel.hot import is_block
from clankernel.pages import ALL_LETTERS, chain_of, deed_done, emptied, is_letters, is_own, letters_at


class Spaces:
    def __init__(self, text):
        if type(text) is not str:
            raise BadSpaces(0)
        lines = text.split("\n")
        frames = _headed(lines, 0, "frames", 16)
        tasks = _headed(lines, 1, "tasks", 6)
        rows = _page_rows(lines, frames, tasks)
        wrong = first_wrong_page(frames, rows)
        if wrong is not None:
            raise BadSpaces(wrong + 3)
        self.text = text
        self.frames = frames
        self.tasks = tasks
        # Of each place that has a frame, but the root's own ones: letters, parent.
        self.held = {place: (letters, parent) for place, letters, parent in rows}
        self.pages = tuple([(*place, self.frame_of(place), letters) for place, letters, _ in rows])

    def __eq__(self, other):
        return isinstance(other, Spaces) and self.text == other.text

    def __len__(self):
        return len(self.pages)

    def __contains__(self, value):
        if not is_tuple_of(value, 2) or not is_within(value[0], 0, 5) or not is_within(value[1], 0, 15):
            return False
        return is_own(self.frames, value) or value in self.held

    def mapped(self, giver, block, taker, window, spot, letters):
        _check_transfer(self, (giver, block, taker, window, spot, letters))
        return self.after_deed(("map", giver, block, taker, window, spot, letters))

    def granted(self, giver, block, taker, window, spot, letters):
        _check_transfer(self, (giver, block, taker, window, spot, letters))
        return self.after_deed(("grant", giver, block, taker, window, spot, letters))

    def unmapped(self, task, block, letters, own):
        if not self.has_task(task):
            raise NoTask(task)
        if not is_block(block):
            raise BadBlock(block)
        if not is_letters(letters):
            raise BadLetters(letters)
        if type(own) is not bool:
            raise BadOwn(own)
        return self.after_deed(("unmap", task, block, letters, own))

    def gone(self, tasks):
        if not is_lot(tasks, 1, self.tasks - 1):
            raise BadTasks(tasks)
        return self.with_held(emptied(self.held, tasks))

    def has_task(self, value):
        """Whether any value is the number of a task."""
        return is_within(value, 0, self.tasks - 1)

    def letters_of(self, place):
        """The letters of a place, "" if it has nothing."""
        return letters_at(self.frames, self.held, place)

    def frame_of(self, place):
        """The frame of a place that has one: pages of the root's own are numbered as frames."""
        return chain_of(self.frames, self.held, place)[-1][1]

    def after_deed(self, deed):
        """The Spaces behind a right deed, as courses have it."""
        later, _ = deed_done(self.frames, self.held, deed)
        return self.with_held(later)

    def with_held(self, held):
        """The Spaces of as many frames and tasks in which these pages are held."""
        lines = [f"frames {self.frames}", f"tasks {self.tasks}"]
        for task, page in sorted(held):
            letters, parent = held[(task, page)]
            lines.append(f"page {task} {page} {letters} {parent[0]} {parent[1]}")
        return Spaces("\n".join(lines))


def _check_transfer(spaces, values):
    giver, block, taker, window, spot, letters = values
    if not spaces.has_task(giver):
        raise NoTask(giver)
    if not is_block(block):
        raise BadBlock(block)
    if not spaces.has_task(taker):
        raise NoTask(taker)
    if not is_block(window):
        raise BadBlock(window)
    if not is_within(spot, 0, 15):
        raise BadSpot(spot)
    if not is_letters(letters):
        raise BadLetters(letters)


def _headed(lines, at, head, most):
    """The number that one of the first two lines tells."""
    number = number_told(lines, at, head, (1, most))
    if number is None:
        raise BadSpaces(at + 1)
    return number


def _page_rows(lines, frames, tasks):
    """What the lines behind the first two tell: (place, letters, parent)."""
    rows = []
    last = (-1, -1)
    for number, line in enumerate(lines[2:], start=3):
        row = page_row(line, tasks)
        if row is None or is_own(frames, row[0]) or row[0] <= last:
            raise BadSpaces(number)
        last = row[0]
        rows.append(row)
    return rows


def page_row(line, tasks):
    """What a line page tells by its form: (place, letters, parent); None if it has not this form."""
    words = line.split(" ")
    if len(words) != 6 or words[0] != "page" or not is_letters(words[3]):
        return None
    numbers = [number_in(words[1], 0, tasks - 1), number_in(words[2], 0, 15),
               number_in(words[4], 0, tasks - 1), number_in(words[5], 0, 15)]
    if None in numbers:
        return None
    return ((numbers[0], numbers[1]), words[3], (numbers[2], numbers[3]))


def first_wrong_page(frames, rows):
    """The number of the first row that cannot stand among these: parents without
    a frame, then rings of parents, then letters; None if all can."""
    held = {place: (letters, parent) for place, letters, parent in rows}
    for number, row in enumerate(rows):
        if not is_own(frames, row[2]) and row[2] not in held:
            return number
    for number, row in enumerate(rows):
        if not _leads_to_root(frames, held, row[0]):
            return number
    for number, row in enumerate(rows):
        above = ALL_LETTERS if is_own(frames, row[2]) else held[row[2]][0]
        if not all([letter in above for letter in row[1]]):
            return number
    return None


def _leads_to_root(frames, held, place):
    now = place
    # A way of parents that is longer than all places goes round.
    for _ in range(len(held)):
        now = held[now][1]
        if is_own(frames, now):
            return True
    return False
