"""A stage for kernels: systems of programs, and kernels that are set as a test wants them, by their images."""

from clankernel.asm import Program
from clankernel.cells import memory_of
from clankernel.images import from_image, image
from clankernel.kernel import Kernel
from clankernel.rows import word_of
from clankernel.systems import System

# Places of the common first page, frame 0: calls 0 to 5, call 15, trap 9, a word that is no row, jump 0.
CODE = [word_of(("call", number)) for number in (0, 1, 2, 3, 4, 5, 15)]
CODE += [word_of(("trap", 9)), 0, word_of(("jump", 0)), word_of(("load", 0, 1, 0)), word_of(("store", 0, 1, 0)),
         word_of(("div", 0, 1)), word_of(("go", 1)), word_of(("set", 0, 7)), word_of(("add", 0, 0))]
CALL_15, TRAP, NO_ROW, JUMP, LOAD, STORE, DIV, GO, SET, ADD = 6, 7, 8, 9, 10, 11, 12, 13, 14, 15
EVER = 65535

# The root 0 made 1 and 2, 1 made 3, 2 made 4. Threads 0 to 4 are of tasks 0 to 4, 5 of task 1, 6 of task 2.
# Gates 0 to 4 are owned by threads 0 to 4, gates 5 and 6 by threads 1 and 2: borders of tasks 1 and 2.
# Frame 0 is the code of all at page 0; page 1 of task T has frame T + 1, page 2 of tasks 1 and 2 frame 6.
HEAD = """frames 16
task 0 -
task 1 0
task 2 0
task 3 1
task 4 2
thread 0 0 0 4 20 rests
thread 1 1 0 4 20 rests
thread 2 2 0 4 20 rests
thread 3 3 0 4 20 rests
thread 4 4 0 4 20 rests
thread 5 1 0 4 20 rests
thread 6 2 0 4 20 rests
gate 0 0
gate 1 1
gate 2 2
gate 3 3
gate 4 4
gate 5 1
gate 6 2
border 1 5
border 2 6"""
# In each table at place G a right to gate G; badges only of tasks 1 and 3; task 0 can control 1 at place 10 and 4 at 11,
# task 1 can control 3 at place 10.
RIGHTS = []
for _task in range(5):
    for _gate in range(7):
        _badge = {1: 100 + _gate, 3: 300 + _gate}.get(_task, "-")
        RIGHTS.append(f"right {7 * _task + _gate} {_task} {_gate} g{_gate} sg {_badge} -")
RIGHTS += ["right 40 0 10 t1 cg - -", "right 41 0 11 t4 cg - -", "right 42 1 10 t3 c - -"]
PAGES = []
for _task in range(1, 5):
    PAGES += [f"page {_task} 0 rx 0 0", f"page {_task} 1 rw 0 {_task + 1}"]
    if _task in (1, 2):
        PAGES.append(f"page {_task} 2 rw 0 6")
DEVICES = ["device 1 70", "device - 0", "device 5 71"]


def stage(doors=(), words=None, turns="slices", devices=DEVICES, inputs=(), rights=RIGHTS, pages=PAGES, head=HEAD):
    """The kernel of the common system, with these lines in the place of its own; words: {frame: its words}."""
    told = {0: CODE}
    told.update(words or {})
    lines = [head, *doors, *rights, *pages]
    lines += ["words {} {}".format(frame, " ".join(str(word) for word in told[frame])) for frame in sorted(told)]
    lines += [*devices, f"turns {turns}", *inputs]
    return Kernel(System("\n".join(lines)))


def by_place(lines):
    """Lines page in their sequence."""
    return sorted(lines, key=lambda line: [int(part) for part in line.split(" ")[1:3]])


def sixteen(*words):
    """The words of a frame, noughts behind these."""
    return list(words) + [0] * (16 - len(words))


def edited(kernel, cells=(), row=None, words=()):
    """The kernel in which cells have this place and these registers, the row of turns is this one, frames have these words.

    cells: {thread: (place, registers)}; words: {frame: words}.
    """
    lines = image(kernel).split("\n")
    for thread, (place, registers) in dict(cells).items():
        at = next(at for at, line in enumerate(lines) if line.startswith(f"cell {thread} "))
        told = lines[at].split(" ")
        told[2] = str(place)
        told[3:11] = [str(word) for word in list(registers) + [0] * (8 - len(registers))]
        lines[at] = " ".join(told)
    if row is not None:
        at = next(at for at, line in enumerate(lines) if line == "row" or line.startswith("row "))
        # Who rests or comes to be ready by it is told so in its cell.
        for thread in range(len(kernel.waits)):
            if kernel.state(thread) in ("ready", "rests"):
                spot = next(spot for spot, line in enumerate(lines) if line.startswith(f"cell {thread} "))
                told = lines[spot].split(" ")
                told[11] = "ready" if thread in row else "rests"
                lines[spot] = " ".join(told)
        lines[at] = " ".join(["row"] + [str(thread) for thread in row])
    for frame, told in dict(words).items():
        lines = [line for line in lines if not line.startswith(f"words {frame} ")]
        if any(told):
            behind = lines.index("world devices") + 1
            while behind < len(lines) and not lines[behind].startswith("input ") and not (
                    lines[behind].startswith("words ") and int(lines[behind].split(" ")[1]) > frame):
                behind += 1
            lines.insert(behind, " ".join(["words", str(frame)] + [str(word) for word in told]))
    return from_image("\n".join(lines))


def acting(kernel, thread, place, *registers):
    """The kernel in which this thread is next, at this place, with these registers."""
    others = [other for other in kernel.turns.row if other != thread]
    return edited(kernel, {thread: (place, registers)}, [thread] + others)


def act(kernel, thread, place, *registers):
    """One tick in which this thread does the row at this place: (kernel, events without their tick)."""
    later = acting(kernel, thread, place, *registers)
    events = later.run(1)
    return later, tuple(event[1:] for event in events)


def told_by(kernel, thread, number, *registers):
    """A call of the kernel by this thread: (kernel, events behind "row" and "call")."""
    later, events = act(kernel, thread, number, *registers)
    at = [event[0] for event in events].index("call")
    return later, events[at + 1:]


def limits(first, second):
    """Two limits as r2 tells them, None for ever."""
    return 256 * (255 if first is None else first) + (255 if second is None else second)


def receiving(kernel, thread, source=254, limit=None, items=0):
    """The kernel in which this thread waits for a message."""
    later, events = told_by(kernel, thread, 0, 255, source, limits(0, limit), 0, 0, 0, 0, items)
    assert later.state(thread) == "receives" and not events, events
    return later


def words_lines(text, frames):
    """Lines words of the frames, in sequence, in which the pages of a program stand."""
    memory = memory_of(Program(text).words)
    return {frame: list(memory[16 * page:16 * page + 16]) for page, frame in enumerate(frames)}
