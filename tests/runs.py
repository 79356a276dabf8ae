"""Random runs: systems of all kinds, whose threads are set to calls of all kinds tick by tick."""

import random

from stage import edited
from clankernel.errors import BadItems
from clankernel.images import image
from clankernel.items import items_in
from clankernel.kernel import Kernel
from clankernel.rows import word_of
from clankernel.systems import System

CALLS = [word_of(("call", number)) for number in (0, 0, 0, 0, 1, 2, 3, 4, 0, 0, 0, 5)]
CALLS += [word_of(("trap", 3)), 0, word_of(("div", 0, 1)), word_of(("store", 0, 1, 0))]
# Where calls of each number stand, and, as if it were one, a store.
PLACES = {0: (0, 1, 2, 3, 8, 9, 10), 1: (4,), 2: (5,), 3: (6,), 4: (7,), 5: (11,), 6: (15,)}


def random_system(rng):
    tasks, frames = rng.randint(2, 6), rng.choice([4, 8, 16])
    chiefs = [None] + [rng.randrange(task) for task in range(1, tasks)]
    lines = [f"frames {frames}", "task 0 -"] + [f"task {task} {chiefs[task]}" for task in range(1, tasks)]
    threads = [rng.randrange(tasks) for _ in range(rng.randint(2, 8))]
    for thread, task in enumerate(threads):
        state = rng.choice(["ready"] * 4 + ["rests"])
        lines.append(f"thread {thread} {task} {rng.randrange(16)} {rng.choice([3, 4, 4, 4, 5])} {rng.randint(1, 6)} {state}")
    owners = [rng.randrange(len(threads)) for _ in range(rng.randint(1, 4))]
    lines += [f"gate {gate} {owner}" for gate, owner in enumerate(owners)]
    for task in range(tasks):
        own = [gate for gate, owner in enumerate(owners) if threads[owner] == task]
        if own and rng.random() < 0.8:
            lines.append(f"border {task} {rng.choice(own)}")
    for thread in range(len(threads)):
        if rng.random() < 0.7:
            lines.append(f"doors {thread} {rng.choice(['-', 0, 1, 2, 3])} {rng.choice(['-', 0, 1, 2, 3])}")
    lines += right_lines(rng, chiefs, len(owners)) + page_lines(rng, tasks, frames)
    lines.append("words 0 " + " ".join(map(str, CALLS)))
    lines += ["words {} {}".format(frame, " ".join(map(str, random_words(rng)))) for frame in range(1, frames)]
    devices = rng.randint(0, 3)
    for _ in range(devices):
        gate = rng.choice(["-"] + list(range(len(owners))))
        lines.append(f"device {gate} {0 if gate == '-' else rng.randrange(100)}")
    lines.append(rng.choice(["turns slices", "turns slices", "turns 0 2 1 2 2 1 3 1"]))
    inputs = sorted({(rng.randint(1, 40), rng.randrange(devices)) for _ in range(8)}) if devices else []
    return System("\n".join(lines + [f"input {tick} {device} {rng.randrange(65536)}" for tick, device in inputs]))


def right_lines(rng, chiefs, gates):
    lines, number = [], 0
    for task in range(len(chiefs)):
        beneath = []
        for other in range(len(chiefs)):
            above = chiefs[other]
            while above is not None and above != task:
                above = chiefs[above]
            if above == task:
                beneath.append(f"t{other}")
        for place in range(rng.randint(1, 7)):
            thing = rng.choice([f"g{gate}" for gate in range(gates)] + beneath)
            letters = rng.choice(["sg", "s"] if thing[0] == "g" else ["cg", "c"])
            badge = rng.choice(["-", rng.randrange(1000)]) if thing[0] == "g" else "-"
            lines.append(f"right {number} {task} {place} {thing} {letters} {badge} -")
            number += rng.choice([1, 1, 3])
    return lines


def page_lines(rng, tasks, frames):
    lines = []
    for task in range(1, tasks):
        lines.append(f"page {task} 0 rwx 0 0")
        for page in range(1, 16):
            if rng.random() < 0.5:
                letters = rng.choice(["rwx"] * 3 + ["r", "rw", "x", "rx", "wx", "w"])
                lines.append(f"page {task} {page} {letters} 0 {rng.randrange(frames)}")
    return lines


def random_words(rng):
    """The words of a frame: items somewhere, rows and calls elsewhere."""
    words = [rng.choice([0, rng.randrange(65536), word_of(("load", 0, 1, rng.randrange(64))), word_of(("store", 0, 1, rng.randrange(64)))])
             for _ in range(16)]
    at = rng.randint(0, 3)
    for kind in rng.sample([1, 1, 2, 3, 4, 5, 5, 6, 7], 3):
        if kind in (1, 5):
            row = [kind, rng.choice([0, 8, 16, 20, 32, rng.randrange(256)]), rng.randint(1, 16), 0]
        elif kind in (2, 3):
            row = [kind, random_block(rng), rng.randint(1, 7), rng.randrange(16)]
        elif kind == 4:
            row = [4, rng.randrange(7), rng.choice([1, 3, 4, 6]), rng.choice([65535, 65535, 5])]
        else:
            row = [kind, random_block(rng) if kind == 6 else rng.randrange(16), 0, 0]
        words[at:at + 4] = row
        at += 4
    return (words[:at] + [0] * 16)[:16]


def random_block(rng):
    size = rng.choice([1, 1, 2, 4, 8, 16])
    return 32 * size * rng.randrange(16 // size) + size


def random_call(rng, kernel, thread):
    """A call that mostly tells something: (number, registers)."""
    task = kernel.turns.threads[thread][0]
    number = rng.choice([0] * 16 + [1, 2, 2, 3, 3, 4, 5, 6, 6])
    if number == 1:
        return 1, [random_block(rng), rng.randint(1, 7), rng.randrange(2), 0, 0, 0, 0, 0]
    if number == 2:
        return 2, [rng.randrange(5), rng.randrange(8), rng.randrange(16), rng.choice([1, 3, 4, 6, 7]), 0, 0, 0, 0]
    if number == 3:
        how = rng.choice([0, 0, 0, 1, 1, 2])
        told = rng.choice([65535, 3, 12, 20, 200]) if how == 0 else rng.choice([0, 1, 2, 255])
        control = [row[2] for row in kernel.rights.rows if row[1] == task and row[3][0] == "t"]
        return 3, [how, rng.choice([255] + control * 3), rng.randrange(8), told, rng.choice([0, 1, 1, 1, 2]), 0, 0, 0]
    if number > 3:
        return number, [rng.randrange(65536), rng.randrange(260)] + [rng.randrange(65536) for _ in range(6)]
    to = [255] + [row[2] for row in kernel.rights.rows if row[1] == task and row[3][0] == "g"]
    to += [254, 254, 254, 255, 255] if kernel.waits.owes(thread) is not None else []
    to += [253] * 3 if kernel.passing(thread) is not None else []
    first = rng.choice(to)
    sources = [255, 254, 254, 254] + [gate for gate, owner in enumerate(kernel.waits.owners) if owner == thread]
    sources += [253] * 4 if first <= 253 else []
    items = [at for at in range(1, 256) if kernel.read(task, at) in range(1, 8) and are_items(kernel, task, at)]
    limits = 256 * rng.choice([0, 2, 4, 8, 255]) + rng.choice([0, 4, 8, 8, 255])
    registers = [first, rng.choice(sources), limits] + [rng.choice([0, 1, 2, rng.randrange(65536)]) for _ in range(4)]
    return 0, registers + [rng.choice([0, 0, 0, 0, rng.randrange(256)] + 3 * rng.sample(items, min(3, len(items))))]


def are_items(kernel, task, address):
    words = [kernel.read(task, at) for at in range(address, min(address + 29, 256))]
    words = words[:words.index(None)] if None in words else words
    try:
        items_in(tuple(words))
    except BadItems:
        return False
    return True


def random_run(seed, ticks):
    """Tick by tick: (events, kernel ahead, kernel behind)."""
    rng = random.Random(seed)
    kernel = Kernel(random_system(rng))
    for _ in range(ticks):
        resting = [thread for thread in range(len(kernel.waits)) if kernel.state(thread) == "rests"]
        if resting and rng.random() < 0.7:
            kernel = edited(kernel, row=list(kernel.turns.row) + [rng.choice(resting)])
        thread = kernel.turns.next
        if thread is not None and rng.random() < 0.75:
            number, registers = random_call(rng, kernel, thread)
            task = kernel.turns.threads[thread][0]
            places = [place for place in PLACES[number] if (task, 0) in kernel.spaces and "x" in kernel.spaces.letters_of((task, 0))]
            if places:
                kernel = edited(kernel, {thread: (rng.choice(places), registers)})
        if len(kernel.devices) > 0 and rng.random() < 0.05:
            kernel.tell(rng.randrange(len(kernel.devices)), rng.randrange(100))
        ahead = kernel.copy()
        events = kernel.run(1)
        yield events, ahead, kernel


def image_lines(kernel, kind):
    return [line for line in image(kernel).split("\n") if line.split(" ")[0] == kind]
