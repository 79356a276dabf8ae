"""Stands: all that a kernel has at one tick, and the text that tells it."""

from clankernel.cells import Cell
from clankernel.checks import line_of
from clankernel.ways import next_stop, straight


class Stand:
    """A run works on a copy of a stand; one that a kernel has never changes again."""

    def __init__(self, spaces, rights, clans, waits, turns, devices):
        self.spaces = spaces
        self.rights = rights
        self.clans = clans
        self.waits = waits
        self.turns = turns
        self.devices = devices
        # Of each thread its Cell, and its doors (pager, handler); of each frame its words.
        self.cells = []
        self.door_pairs = []
        self.frame_words = []
        # Of each task that has one its border gate.
        self.borders = {}
        # Of threads: their passing rights (gate, badge, task); of what they send over a border gate
        # that was not meant (meant gate, origin); the words of items that they told; their faults.
        self.passings = {}
        self.meant = {}
        self.told_items = {}
        self.faults = {}
        # What is still to come, as it will ring: (tick, device, word).
        self.inputs = []

    def working_copy(self):
        copied = Stand(self.spaces, self.rights, self.clans, self.waits, self.turns, self.devices)
        copied.cells = list(self.cells)
        copied.door_pairs = list(self.door_pairs)
        copied.frame_words = [list(words) for words in self.frame_words]
        copied.borders = dict(self.borders)
        copied.passings = dict(self.passings)
        copied.meant = dict(self.meant)
        copied.told_items = dict(self.told_items)
        copied.faults = dict(self.faults)
        copied.inputs = list(self.inputs)
        return copied

    def task_of(self, thread):
        return self.turns.threads[thread][0]

    def is_waiting(self, thread):
        return self.waits.state(thread)[0] in ("sends", "receives")

    def own_gates(self, thread):
        return [gate for gate, owner in enumerate(self.waits.owners) if owner == thread]

    def open_gates(self):
        """The gates from which their owners receive now, or from any."""
        return tuple([gate for gate in range(len(self.waits.owners)) if self.waits.is_open(gate)])

    def meant_by(self, thread, place):
        """What a right to a gate in a place of a thread's table means: (gate, badge, origin); None without one."""
        task = self.task_of(thread)
        row = self.rights.right_in(task, place)
        if row is None or row[3][0] != "g":
            return None
        return (int(row[3][1:]), row[5], task)

    def gate_towards(self, thread, gate):
        """The gate over which a message of a thread goes that is meant for this gate; None if it is barred."""
        task, other = self.task_of(thread), self.rights.gates[gate]
        if straight(self.clans, task, other):
            return gate
        return self.borders.get(next_stop(self.clans, task, other))

    def spot(self, task, address, letter):
        """Where an address stands, as (frame, word); None if its page is not let this letter."""
        place = (task, address // 16)
        if letter not in self.spaces.letters_of(place):
            return None
        return (self.spaces.frame_of(place), address % 16)

    def word_at(self, task, address, letter):
        """The word at an address, None if its page is not let this letter."""
        spot = self.spot(task, address, letter)
        return None if spot is None else self.frame_words[spot[0]][spot[1]]

    def write(self, spot, word):
        self.frame_words[spot[0]][spot[1]] = word

    def drop_ended(self):
        """What was told of a wait goes with it."""
        sending = [thread for thread in self.meant if self.waits.state(thread)[0] == "sends"]
        self.meant = {thread: self.meant[thread] for thread in sending}
        self.told_items = {thread: self.told_items[thread] for thread in self.told_items if self.is_waiting(thread)}
        self.faults = {thread: self.faults[thread] for thread in self.faults if self.is_waiting(thread)}


def first_stand(system):
    """What stands at tick 0."""
    stand = Stand(system.spaces, system.rights, system.clans, system.waits, system.turns, system.devices)
    stand.cells = [Cell((0,) * 8, place) for place in system.places]
    stand.door_pairs = list(system.door_pairs)
    stand.frame_words = [list(words) for words in system.frame_words]
    stand.borders = dict(system.border_gates)
    stand.inputs = list(system.inputs)
    return stand


def state_of(stand, thread):
    if thread in stand.faults:
        return "faults"
    word = stand.waits.state(thread)[0]
    if word == "ready" and thread not in stand.turns.row:
        return "rests"
    return word


def image_text(stand):
    lines = [f"tick {stand.waits.now}"]
    lines.extend([_cell_line(stand, thread) for thread in range(len(stand.cells))])
    lines.extend([f"border {task} {stand.borders[task]}" for task in sorted(stand.borders)])
    lines.extend([_passing_line(thread, stand.passings[thread]) for thread in sorted(stand.passings)])
    lines.extend([line_of("meant", (thread, *stand.meant[thread])) for thread in sorted(stand.meant)])
    lines.extend([line_of("items", (thread, *stand.told_items[thread])) for thread in sorted(stand.told_items)])
    lines.extend([_fault_line(thread, stand.faults[thread]) for thread in sorted(stand.faults)])
    lines.extend(["world spaces", stand.spaces.text, "world rights", stand.rights.text])
    lines.extend(["world clans", stand.clans.text, "world waits", stand.waits.text])
    lines.extend(["world turns", stand.turns.text, "world devices", stand.devices.text])
    for frame, words in enumerate(stand.frame_words):
        if any([word != 0 for word in words]):
            lines.append(line_of("words", (frame, *words)))
    lines.extend([line_of("input", told) for told in stand.inputs])
    return "\n".join(lines)


def _dashed(value):
    return "-" if value is None else value


def _cell_line(stand, thread):
    cell = stand.cells[thread]
    pager, handler = stand.door_pairs[thread]
    told = [thread, cell.place, *cell.registers, state_of(stand, thread), _dashed(pager), _dashed(handler)]
    return line_of("cell", told)


def _passing_line(thread, passing):
    gate, badge, task = passing
    return line_of("passing", (thread, gate, _dashed(badge), task))


def _fault_line(thread, fault):
    parts = [*fault, "-"]
    return line_of("fault", (thread, *parts[:3]))
