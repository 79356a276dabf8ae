"""Systems: all that stands at tick 0, told by one text."""

from clankernel.checks import is_ascending, is_tuple_of, is_within, is_word, number_in, number_told
from clankernel.clans import Clans
from clankernel.devices import Devices, device_row
from clankernel.errors import BadInputs, BadSystem
from clankernel.pages import is_own
from clankernel.rights import LAST_NUMBER, Rights, all_things, right_row, stands_behind
from clankernel.spaces import Spaces, first_wrong_page, page_row
from clankernel.turns import Turns, shifts_told
from clankernel.waiting import Waits

# The kinds of lines in their sequence; which of them must be there; how many there may be.
KINDS = ("frames", "task", "thread", "gate", "border", "doors", "right", "page", "words", "device", "turns", "input")
NEEDED = ("frames", "task", "thread", "turns")
MOST = {"frames": 1, "task": 6, "thread": 8, "gate": 12, "device": 4, "turns": 1, "input": 12}
LAST_INPUT = 400


class System:
    """Besides its worlds: what a kernel begins with.

    Of each thread its place, and its doors (pager, handler); of each task that has one its
    border gate; of each frame its words.
    """

    def __init__(self, text):
        if type(text) is not str:
            raise BadSystem(0)
        lines = text.split("\n")
        plan = Plan()
        for number, line in enumerate(lines, start=1):
            if not plan.take(line):
                raise BadSystem(number)
        if not plan.lines["turns"]:
            raise BadSystem(len(lines) + 1)
        wrong = first_wrong_page(plan.frames, plan.pages)
        if wrong is not None:
            raise BadSystem(plan.many_ahead("page") + wrong + 1)
        self.text = text
        self.spaces = Spaces(plan.text_of_spaces())
        self.rights = Rights(plan.text_of_rights())
        self.clans = Clans(plan.text_of_clans())
        self.waits = Waits(plan.text_of_waits())
        self.turns = Turns(plan.text_of_turns())
        self.devices = Devices(plan.text_of_devices())
        self.inputs = tuple(plan.inputs)
        self.tasks = tuple([thread[0] for thread in plan.threads])
        self.places = tuple(plan.places)
        self.door_pairs = tuple([plan.pairs.get(thread, (None, None)) for thread in range(len(self.tasks))])
        self.border_gates = plan.borders
        self.frame_words = tuple([plan.frame_words.get(frame, (0,) * 16) for frame in range(plan.frames)])

    def __eq__(self, other):
        return isinstance(other, System) and self.text == other.text

    def with_inputs(self, inputs):
        if not self.has_room_for(inputs):
            raise BadInputs(inputs)
        lines = self.text.split("\n")
        kept = lines[:len(lines) - len(self.inputs)]
        return System("\n".join(kept + [f"input {tick} {device} {word}" for tick, device, word in inputs]))

    def has_room_for(self, value):
        """Whether any value is inputs that can stand in this system."""
        if type(value) is not tuple or len(value) > MOST["input"]:
            return False
        if not all([self.is_input(told) for told in value]):
            return False
        return is_ascending([told[:2] for told in value])

    def is_input(self, value):
        if not is_tuple_of(value, 3) or not is_within(value[0], 1, LAST_INPUT):
            return False
        return self.devices.has_device(value[1]) and is_word(value[2])


class Plan:
    """What the lines of a text of a system have told so far."""

    def __init__(self):
        # Of each kind the lines that stand.
        self.lines = {kind: [] for kind in KINDS}
        self.frames = 0
        # Of each task its chief; of each thread (task, priority, slice, state); of each gate its owner.
        self.chiefs = []
        self.threads = []
        self.owners = []
        # Of each thread its place; by their numbers, what lines border, doors, words tell.
        self.places = []
        self.borders = {}
        self.pairs = {}
        self.frame_words = {}
        self.right_rows = []
        self.pages = []
        self.inputs = []

    def take(self, line):
        """Take one line; whether it can stand there."""
        words = line.split(" ")
        if not self.may_come(words[0]) or not self.take_told(line, words):
            return False
        self.lines[words[0]].append(line)
        return True

    def may_come(self, kind):
        """Whether a line of this kind can stand behind all that were taken."""
        if kind not in KINDS:
            return False
        at = KINDS.index(kind)
        if any([self.lines[later] for later in KINDS[at + 1:]]):
            return False
        if not all([self.lines[ahead] for ahead in KINDS[:at] if ahead in NEEDED]):
            return False
        return kind not in MOST or len(self.lines[kind]) < MOST[kind]

    def many_ahead(self, kind):
        """How many lines stand ahead of those of this kind."""
        return sum([len(self.lines[ahead]) for ahead in KINDS[:KINDS.index(kind)]])

    def take_told(self, line, words):
        match words[0]:
            case "frames":
                return self.take_frames(line)
            case "task":
                return self.take_task(words)
            case "thread":
                return self.take_thread(words)
            case "gate":
                return self.take_gate(words)
            case "border":
                return self.take_border(words)
            case "doors":
                return self.take_doors(words)
            case "right":
                return self.take_right(line)
            case "page":
                return self.take_page(line)
            case "words":
                return self.take_words(words)
            case "device":
                return self.take_device(line)
            case "turns":
                return words[1:] == ["slices"] or shifts_told(words[1:]) is not None
        return self.take_input(words)

    def take_frames(self, line):
        frames = number_told([line], 0, "frames", (1, 16))
        self.frames = frames
        return frames is not None

    def take_task(self, words):
        task = len(self.chiefs)
        if len(words) != 3 or words[1] != str(task):
            return False
        chief = None if task == 0 else number_in(words[2], 0, task - 1)
        if chief is None and (task > 0 or words[2] != "-"):
            return False
        self.chiefs.append(chief)
        return True

    def take_thread(self, words):
        if len(words) != 7 or words[1] != str(len(self.threads)) or words[6] not in ("ready", "rests"):
            return False
        task, place = self.task_told(words[2]), number_in(words[3], 0, 255)
        priority, whole = number_in(words[4], 0, 7), number_in(words[5], 1, 20)
        if None in (task, place, priority, whole):
            return False
        self.threads.append((task, priority, whole, words[6]))
        self.places.append(place)
        return True

    def take_gate(self, words):
        if len(words) != 3 or words[1] != str(len(self.owners)):
            return False
        owner = self.thread_told(words[2])
        if owner is None:
            return False
        self.owners.append(owner)
        return True

    def take_border(self, words):
        if len(words) != 3:
            return False
        task, gate = self.task_told(words[1]), number_in(words[2], 0, len(self.owners) - 1)
        if task is None or gate is None or self.threads[self.owners[gate]][0] != task:
            return False
        return tell_next(self.borders, task, gate)

    def take_doors(self, words):
        if len(words) != 4 or not all([word == "-" or number_in(word, 0, 15) is not None for word in words[2:]]):
            return False
        pair = (number_in(words[2], 0, 15), number_in(words[3], 0, 15))
        return tell_next(self.pairs, self.thread_told(words[1]), pair)

    def take_right(self, line):
        row = right_row(line, all_things(len(self.chiefs), len(self.owners)), len(self.chiefs))
        if row is None or row[0] >= LAST_NUMBER or not stands_behind(row, self.right_rows):
            return False
        if row[6] is None and row[3][0] == "t" and not self.is_beneath(int(row[3][1:]), row[1]):
            return False
        self.right_rows.append(row)
        return True

    def take_page(self, line):
        row = page_row(line, len(self.chiefs))
        if row is None or is_own(self.frames, row[0]) or (self.pages and row[0] <= self.pages[-1][0]):
            return False
        self.pages.append(row)
        return True

    def take_words(self, words):
        told = tuple([number_in(word, 0, 65535) for word in words[2:]])
        if len(told) != 16 or None in told:
            return False
        return tell_next(self.frame_words, number_in(words[1], 0, self.frames - 1), told)

    def take_device(self, line):
        row = device_row(line)
        if row is None or row[3] > 0:
            return False
        return row[0] is None or row[0] < len(self.owners)

    def take_input(self, words):
        if len(words) != 4:
            return False
        device = number_in(words[2], 0, len(self.lines["device"]) - 1)
        row = (number_in(words[1], 1, LAST_INPUT), device, number_in(words[3], 0, 65535))
        if None in row or (self.inputs and row[:2] <= self.inputs[-1][:2]):
            return False
        self.inputs.append(row)
        return True

    def task_told(self, word):
        return number_in(word, 0, len(self.chiefs) - 1)

    def thread_told(self, word):
        return number_in(word, 0, len(self.threads) - 1)

    def is_beneath(self, task, other):
        """Whether a task is beneath another one."""
        above = self.chiefs[task]
        while above is not None and above != other:
            above = self.chiefs[above]
        return above == other

    def text_of_spaces(self):
        return "\n".join([f"frames {self.frames}", f"tasks {len(self.chiefs)}", *self.lines["page"]])

    def text_of_rights(self):
        lines = [f"tasks {len(self.chiefs)}"]
        lines.extend([f"gate {self.threads[owner][0]}" for owner in self.owners])
        fresh = self.right_rows[-1][0] + 1 if self.right_rows else 0
        return "\n".join([*lines, f"next {fresh}", *self.lines["right"]])

    def text_of_clans(self):
        lines = [f"clans {len(self.chiefs)}"]
        for task, line in enumerate(self.lines["task"]):
            word = "border" if task in self.borders else "none"
            lines.append(f"{line} {word}")
        return "\n".join(lines)

    def text_of_waits(self):
        priorities = " ".join([str(thread[1]) for thread in self.threads])
        gates = " ".join(["gates"] + [str(owner) for owner in self.owners])
        return f"now 0\nthreads {priorities}\n{gates}"

    def text_of_turns(self):
        told = self.lines["turns"][0].removeprefix("turns ")
        lines = ["manner slices"] if told == "slices" else [f"manner table {told}", "at 0"]
        lines.extend([f"thread {task} {priority} {whole} {whole}" for task, priority, whole, _ in self.threads])
        ready = [str(number) for number, thread in enumerate(self.threads) if thread[3] == "ready"]
        return "\n".join([*lines, " ".join(["row"] + ready)])

    def text_of_devices(self):
        return "\n".join(self.lines["device"]) if self.lines["device"] else "none"


def tell_next(told, number, value):
    """Tell this of a number; whether there is one, which ascends behind all that were told."""
    if number is None or any([number <= ahead for ahead in told]):
        return False
    told[number] = value
    return True
