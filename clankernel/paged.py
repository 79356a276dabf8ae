"""Paged memory: some pages of a memory in frames, all of them in a store."""

from clankernel.cells import Cell, step, touches
from clankernel.checks import is_within, is_word_tuple
from clankernel.errors import BadFrame, BadFrames, BadMemory, BadNumber, BadPage, BadWay, Fresh, Here

MOST_FRAMES = 16
MOST_ROWS = 400
MOST_NUMBERS = 400


class Paged:
    def __init__(self, memory, frames):
        _check_begin(memory, frames)
        self.standing = Cell((0,) * 8, 0)
        self.frames = (None,) * frames
        self.store = memory
        # What stands in frames is what rows see, so the memory is kept whole.
        self.memory = memory
        self.fresh = ()
        self.written = ()
        self.done = 0

    def __eq__(self, other):
        if not isinstance(other, Paged) or self.standing != other.standing or self.frames != other.frames:
            return False
        if self.store != other.store or self.memory != other.memory:
            return False
        return self.fresh == other.fresh and self.written == other.written and self.done == other.done

    def next_row(self):
        for page in self.accessed():
            if page not in self.frames:
                return (("wants", page), self)
        told = step(self.standing, self.memory)
        if told[0] == "fault":
            return (told, self)
        if told[0] != "goes":
            return ((told[0], told[3]), self)
        later = self.twin()
        later.standing, later.memory = told[1:]
        pages = [page for letter, page in self.touched() if letter == "w"]
        later.written = tuple(sorted(set([*self.written, *pages])))
        later.done = self.done + 1
        return (("done",), later)

    def brought(self, page, frame):
        if not is_within(page, 0, 15):
            raise BadPage(page)
        if not is_within(frame, 0, len(self.frames) - 1):
            raise BadFrame(frame)
        if page in self.frames:
            raise Here(self.frames.index(page))
        gone = self.frames[frame]
        if gone in self.fresh:
            raise Fresh(gone)
        later = self.twin()
        if gone in self.written:
            start, end = 16 * gone, 16 * gone + 16
            later.store = (*self.store[:start], *self.memory[start:end], *self.store[end:])
            later.written = tuple([kept for kept in self.written if kept != gone])
        later.frames = (*self.frames[:frame], page, *self.frames[frame + 1:])
        later.fresh = tuple(sorted([*self.fresh, page]))
        return later

    def accessed(self):
        """The pages of the accesses of the next row, that of its place first."""
        return [self.standing.place // 16] + [page for letter, page in self.touched() if letter != "x"]

    def touched(self):
        return touches(self.standing, self.memory[self.standing.place])

    def twin(self):
        """Another Paged that stands so, but for what is fresh."""
        other = Paged(self.store, len(self.frames))
        other.standing = self.standing
        other.frames = self.frames
        other.memory = self.memory
        other.written = self.written
        other.done = self.done
        return other


def carried(memory, frames, way, rows):
    _check_begin(memory, frames)
    if not _is_way(way, frames):
        raise BadWay(way)
    if not is_within(rows, 0, MOST_ROWS):
        raise BadNumber(rows)
    carrier = Carrier(Paged(memory, frames), way)
    end = None
    while end is None:
        end = carrier.go_on(rows)
    return (end, tuple(carrier.told), carrier.paged)


class Carrier:
    """Rows that are done in a paged memory, and pages that are brought for them by a way."""

    def __init__(self, paged, way):
        self.paged = paged
        self.way = way
        # What was brought: (done, page, frame); of each page the number of its last access.
        self.told = []
        self.accesses = {}
        self.many = 0

    def go_on(self, rows):
        """One row more, or one page: how it ends, None if it goes on."""
        if self.paged.done == rows:
            return ("rows",)
        self.note_accesses()
        told, later = self.paged.next_row()
        self.paged = later
        if told[0] == "wants":
            return self.bring(told[1])
        return None if told[0] == "done" else told

    def note_accesses(self):
        for page in self.paged.accessed():
            if page not in self.paged.frames:
                return
            self.accesses[page] = self.many
            self.many = self.many + 1

    def bring(self, page):
        frames = self.paged.frames
        if None in frames:
            return self.bring_into(page, frames.index(None))
        free = [frame for frame, held in enumerate(frames) if held not in self.paged.fresh]
        if not free:
            return ("stuck",)
        if self.way == "turn":
            return self.bring_into(page, min(free, key=self.came))
        if self.way == "used":
            return self.bring_into(page, min(free, key=self.used))
        if not self.way or self.way[0] not in free:
            return ("lacks",)
        frame = self.way[0]
        self.way = self.way[1:]
        return self.bring_into(page, frame)

    def bring_into(self, page, frame):
        self.told.append((self.paged.done, page, frame))
        self.paged = self.paged.brought(page, frame)
        return None

    def came(self, frame):
        """The number of the last row of what was brought by which the page of a frame came."""
        return max([at for at, told in enumerate(self.told) if told[2] == frame])

    def used(self, frame):
        return self.accesses.get(self.paged.frames[frame], -1)


def _check_begin(memory, frames):
    if not is_word_tuple(memory, 256):
        raise BadMemory(memory)
    if not is_within(frames, 1, MOST_FRAMES):
        raise BadFrames(frames)


def _is_way(value, frames):
    if type(value) is str:
        return value in ("turn", "used")
    if type(value) is not tuple or len(value) > MOST_NUMBERS:
        return False
    return all([is_within(frame, 0, frames - 1) for frame in value])
