"""Translations that are kept, and what goes wrong if they stay too long."""

from clankernel.checks import is_address, is_ascending, is_tuple_of, is_word
from clankernel.errors import BadCourse, BadEmpties, BadSpaces, CoreError
from clankernel.pages import deed_done
from clankernel.spaces import Spaces
from clankernel.trees import page_at

CAUSES = ("beneath", "given", "own", "window")
STALE_TEXT = "frames 2\ntasks 2"
MAPPED = ("map", 0, (0, 1), 1, (3, 1), 0, "rw")
# By each cause a deed that takes page 3 of task 1 away by this cause alone.
TAKERS = {
    "beneath": ("unmap", 0, (0, 1), "rw", False),
    "given": ("grant", 1, (3, 1), 1, (4, 1), 0, "rw"),
    "own": ("unmap", 1, (3, 1), "rw", True),
    "window": ("map", 0, (1, 1), 1, (3, 1), 0, "rw"),
}


class Machine:
    """Spaces, the words of their frames, and the kept rows, deed by deed.

    If empties is None nothing is kept. Words stand by (frame, word), with the
    number of the deed that wrote them.
    """

    def __init__(self, spaces, empties):
        self.spaces = spaces
        self.empties = empties
        self.written = {}
        self.kept_rows = []

    def do(self, number, deed):
        """Do one deed: (answer, number of the write that a read tells)."""
        if deed[0] == "read":
            return self.read(deed[1], deed[2])
        if deed[0] == "write":
            frame = self.look_up(deed[1], deed[2] // 16, "w")
            if frame is not None:
                self.written[(frame, deed[2] % 16)] = (deed[3], number)
            return frame is not None, None
        self.change(deed)
        return None, None

    def read(self, task, address):
        frame = self.look_up(task, address // 16, "r")
        if frame is None:
            return None, None
        return self.written.get((frame, address % 16), (0, None))

    def look_up(self, task, page, letter):
        """The frame of a page, None if it is not let this letter."""
        for row in self.kept_rows:
            if row[:2] == (task, page) and letter in row[3]:
                return row[2]
        found = page_at(self.spaces, task, page)
        if found is None or letter not in found[1]:
            return None
        if self.empties is not None:
            self.keep((task, page, *found))
        return found[0]

    def keep(self, row):
        for at in range(len(self.kept_rows)):
            if self.kept_rows[at][:2] == row[:2]:
                self.kept_rows[at] = row
                return
        if len(self.kept_rows) == 2:
            del self.kept_rows[0]
        self.kept_rows.append(row)

    def change(self, deed):
        """Spaces change; rows of places that lost something by one of empties go."""
        later, causes = deed_done(self.spaces.frames, self.spaces.held, deed)
        ahead = self.spaces
        self.spaces = ahead.with_held(later)
        if self.empties is not None:
            struck = [place for cause, place in causes if cause in self.empties]
            self.kept_rows = [row for row in self.kept_rows
                              if row[:2] not in struck or not _has_lost(ahead, self.spaces, row[:2])]


def plain(spaces, course):
    _check_course(spaces, course)
    return tuple([answer for answer, _ in _played(spaces, course, None)])


def writers(spaces, course):
    _check_course(spaces, course)
    return tuple([number for _, number in _played(spaces, course, None)])


def kept(spaces, course, empties):
    _check_course(spaces, course)
    _check_empties(empties)
    return tuple([answer for answer, _ in _played(spaces, course, empties)])


def stale(empties):
    _check_empties(empties)
    for cause in CAUSES:
        if cause not in empties:
            return (STALE_TEXT, (MAPPED, ("write", 1, 48, 7), TAKERS[cause], ("read", 1, 48)))
    return None


def shows_stale(empties, value):
    _check_empties(empties)
    if empties == CAUSES:
        return value is None
    if not is_tuple_of(value, 2):
        return False
    try:
        spaces = Spaces(value[0])
    except BadSpaces:
        return False
    if not _is_course(spaces, value[1]):
        return False
    return kept(spaces, value[1], empties) != plain(spaces, value[1])


def _played(spaces, course, empties):
    machine = Machine(spaces, empties)
    return [machine.do(number, deed) for number, deed in enumerate(course)]


def _has_lost(ahead, behind, place):
    """Whether a place had a frame, and has another one, or fewer letters, or nothing."""
    had = page_at(ahead, place[0], place[1])
    has = page_at(behind, place[0], place[1])
    if had is None or has is None:
        return had is not None
    return had[0] != has[0] or not all([letter in has[1] for letter in had[1]])


def _check_course(spaces, course):
    if not _is_course(spaces, course):
        raise BadCourse(course)


def _check_empties(empties):
    if type(empties) is not tuple or not all([type(word) is str and word in CAUSES for word in empties]):
        raise BadEmpties(empties)
    if not is_ascending(empties):
        raise BadEmpties(empties)


def _is_course(spaces, value):
    if type(value) is not tuple or len(value) > 40:
        return False
    return all([_is_deed(spaces, deed) for deed in value])


def _is_deed(spaces, value):
    if type(value) is not tuple or len(value) == 0:
        return False
    if value[0] == "read":
        return len(value) == 3 and spaces.has_task(value[1]) and is_address(value[2])
    if value[0] == "write":
        return len(value) == 4 and spaces.has_task(value[1]) and is_address(value[2]) and is_word(value[3])
    if (value[0], len(value)) not in (("map", 7), ("grant", 7), ("unmap", 5)):
        return False
    try:
        _deed_tried(spaces, value)
    except CoreError:
        return False
    return True


def _deed_tried(spaces, deed):
    """The Spaces behind a deed: raises what it raises."""
    values = deed[1:]
    if deed[0] == "map":
        return spaces.mapped(*values)
    if deed[0] == "grant":
        return spaces.granted(*values)
    return spaces.unmapped(*values)
