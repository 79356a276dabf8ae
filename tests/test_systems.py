import unittest

from helpers import ANY_VALUES, Checks
from clankernel.clans import Clans
from clankernel.devices import Devices
from clankernel.errors import BadInputs, BadSystem
from clankernel.rights import Rights
from clankernel.spaces import Spaces
from clankernel.systems import System
from clankernel.turns import Turns
from clankernel.waiting import Waits

SIXTEEN = " 1 2 3 4 5 6 7 8 9 10 11 12 13 14 15 65535"
RICH = """frames 4
task 0 -
task 1 0
task 2 1
thread 0 0 0 4 5 ready
thread 1 1 255 7 20 rests
thread 2 1 16 0 1 ready
gate 0 0
gate 1 2
gate 2 1
border 0 0
border 1 1
doors 0 - 3
doors 2 15 0
right 0 0 0 g0 sg - -
right 4 0 15 t2 cg - -
right 5 2 3 t2 c - 4
right 7 2 0 g0 s 999 0
page 0 9 r 1 0
page 1 0 rw 0 2
page 2 15 w 1 0
words 0 0 0 0 0 0 0 0 0 0 0 0 0 0 0 0 0
words 3 1 2 3 4 5 6 7 8 9 10 11 12 13 14 15 65535
device 2 65534
device - 0
turns 0 2 5 20
input 1 0 5
input 1 1 65535
input 400 0 0"""
LINES = RICH.split("\n")
SMALL = "frames 1\ntask 0 -\nthread 0 0 0 0 1 rests\nturns slices"


def with_line(number, line):
    """The rich text with this line in the place of one."""
    return "\n".join(LINES[:number - 1] + [line] + LINES[number:])


def with_more(number, *lines):
    """The rich text with these lines ahead of one."""
    return "\n".join(LINES[:number - 1] + list(lines) + LINES[number - 1:])


class RightTest(unittest.TestCase, Checks):
    def test_worlds_at_tick_0(self):
        system = System(RICH)
        worlds = (
            (system.spaces, Spaces, "frames 4\ntasks 3\npage 0 9 r 1 0\npage 1 0 rw 0 2\npage 2 15 w 1 0"),
            (system.rights, Rights, "tasks 3\ngate 0\ngate 1\ngate 1\nnext 8\n" + "\n".join(LINES[14:18])),
            (system.clans, Clans, "clans 3\ntask 0 - border\ntask 1 0 border\ntask 2 1 none"),
            (system.waits, Waits, "now 0\nthreads 4 7 0\ngates 0 2 1"),
            (system.turns, Turns, "manner table 0 2 5 20\nat 0\nthread 0 4 5 5\nthread 1 7 20 20\nthread 1 0 1 1\nrow 0 2"),
            (system.devices, Devices, "device 2 65534\ndevice - 0"),
        )
        for world, kind, text in worlds:
            self.assertIs(type(world), kind)
            self.assertEqual(world.text, text)
        self.same(system.inputs, ((1, 0, 5), (1, 1, 65535), (400, 0, 0)))
        self.same((system.tasks, system.text), ((0, 1, 1), RICH))

    def test_the_least(self):
        system = System(SMALL)
        self.assertEqual(system.spaces.text, "frames 1\ntasks 1")
        self.assertEqual(system.rights.text, "tasks 1\nnext 0")
        self.assertEqual(system.clans.text, "clans 1\ntask 0 - none")
        self.assertEqual(system.waits.text, "now 0\nthreads 0\ngates")
        self.assertEqual(system.turns.text, "manner slices\nthread 0 0 1 1\nrow")
        self.assertEqual(system.devices.text, "none")
        self.same((system.inputs, system.tasks, system.text), ((), (0,), SMALL))

    def test_the_most(self):
        lines = ["frames 16", "task 0 -"] + [f"task {task} {task - 1}" for task in range(1, 6)]
        lines += [f"thread {thread} {thread % 6} 255 7 20 ready" for thread in range(8)]
        lines += [f"gate {gate} {gate % 8}" for gate in range(12)] + [f"border {task} {task}" for task in range(6)]
        lines += [f"doors {thread} 15 15" for thread in range(8)] + ["right 9998 0 0 g11 sg 999 -"]
        lines += [f"page 5 {page} rwx 0 {page}" for page in range(16)] + [f"words {frame}{SIXTEEN}" for frame in range(16)]
        lines += ["device 11 65534"] * 4 + ["turns" + " 5 20" * 8] + [f"input 400 {at % 4} 0" for at in range(4)]
        system = System("\n".join(lines))
        self.assertEqual((system.rights.next, len(system.spaces), len(system.clans), len(system.devices)), (9999, 16, 6, 4))
        self.assertEqual(system.turns.row, (0, 1, 2, 3, 4, 5, 6, 7))
        self.assertEqual(System("\n".join(lines[:-4] + [f"input {at + 1} 3 65535" for at in range(12)])).inputs[-1], (12, 3, 65535))

    def test_equality(self):
        self.assertTrue(System(RICH) == System(RICH))
        self.assertFalse(System(RICH) != System(RICH))
        self.assertTrue(System(RICH) != System(SMALL))
        self.assertTrue(System(RICH) != System("\n".join(LINES[:-1])))
        for value in (RICH, None, 0):
            self.assertFalse(System(RICH) == value)


class WrongTest(unittest.TestCase, Checks):
    def wrong(self, number, text):
        self.fails(BadSystem, number, System, text)

    def line_wrong(self, number, *lines):
        for line in lines:
            self.wrong(number, with_line(number, line))
            self.wrong(number, "\n".join(LINES[:number - 1] + [line]))

    def test_no_string(self):
        for value in ANY_VALUES:
            if type(value) is not str:
                self.wrong(0, value)

    def test_frames(self):
        self.line_wrong(1, "", "frames", "frames 0", "frames 17", "frames 04", "frames 4 4", "frames 4 ", "Frames 4", "frames -1", "task 0 -",
                        "clans 1", "turns slices")

    def test_tasks(self):
        self.line_wrong(2, "task 0 0", "task 1 0", "task 1 -", "task 0", "task 0 - -", "task 00 -", "task 0 - none", "task -", "tasks 1", "thread 0 0 0 4 5 ready")
        self.line_wrong(3, "task 1 -", "task 1 1", "task 1 2", "task 2 0", "task 0 -", "task 1 00", "task 1 -1", "task 1 0 0", "task 1", "task  1 0",
                        "task 01 0", "", "frames 4")
        self.line_wrong(4, "task 3 1", "task 2 2", "task 1 0")
        self.wrong(8, "\n".join(LINES[:4] + ["task 3 0", "task 4 0", "task 5 0", "task 6 0"] + LINES[4:]))

    def test_threads(self):
        self.line_wrong(5, "thread 1 0 0 4 5 ready", "thread 0 3 0 4 5 ready", "thread 0 -1 0 4 5 ready", "thread 0 0 256 4 5 ready",
                        "thread 0 0 -1 4 5 ready", "thread 0 0 0 8 5 ready", "thread 0 0 0 4 0 ready", "thread 0 0 0 4 21 ready",
                        "thread 0 0 0 4 5 gone", "thread 0 0 0 4 5", "thread 0 0 0 4 5 ready ", "thread 0 0 0 4 05 ready", "thread 0 0 00 4 5 ready",
                        "thread 00 0 0 4 5 ready", "thread 0 0 0 4 5 Ready", "thread 0 0 4 5 ready", "gate 0 0", "turns slices", "")
        self.line_wrong(6, "thread 0 1 255 7 20 rests", "thread 2 1 255 7 20 rests")
        nine = [f"thread {thread} 0 0 0 1 rests" for thread in range(3, 9)]
        self.wrong(13, with_more(8, *nine))
        self.assertEqual(len(System(with_more(8, *nine[:-1])).tasks), 8)

    def test_gates(self):
        self.line_wrong(8, "gate 1 0", "gate 0 3", "gate 0 -1", "gate 0", "gate 0 0 0", "gate 00 0", "gate 0 00", "gates 0", "gate 0 -")
        self.line_wrong(9, "gate 0 0", "gate 2 0", "task 3 0", "thread 3 0 0 0 1 ready")
        many = [f"gate {gate} 0" for gate in range(3, 13)]
        self.wrong(20, with_more(11, *many))
        self.assertEqual(len(System(with_more(11, *many[:-1])).waits.owners), 12)

    def test_borders(self):
        # Gate 0 is owned by a thread of task 0, gates 1 and 2 by threads of task 1.
        self.line_wrong(11, "border 0 1", "border 1 0", "border 2 0", "border 3 0", "border 0 3", "border 0 -", "border 0", "border 0 0 0", "border - 0",
                        "border 00 0", "Border 0 0", "gate 4 0")
        self.line_wrong(12, "border 0 0", "border 1 0", "border 1 3")
        self.wrong(13, with_more(13, "border 1 2"))
        self.assertTrue(System(with_line(12, "border 1 2")).clans.has_border(1))
        self.assertFalse(System(RICH.replace("border 0 0\n", "")).clans.has_border(0))
        self.wrong(12, with_line(12, "border 0 0\nborder 1 1"))
        self.wrong(5, SMALL.replace("thread 0 0 0 0 1 rests", "thread 0 0 0 0 1 rests\ngate 0 0").replace("turns", "border 0 1\nturns"))
        self.wrong(4, SMALL.replace("turns", "border 0 0\nturns"))

    def test_doors(self):
        self.line_wrong(13, "doors 3 - -", "doors - - -", "doors 0 16 0", "doors 0 0 16", "doors 0 -1 0", "doors 0 none -", "doors 0 -", "doors 0 - 3 0",
                        "doors 00 - 3", "doors 0 00 3", "door 0 - 3", "border 2 0", "doors 0  3")
        self.line_wrong(14, "doors 0 - 3", "border 1 1")
        self.wrong(14, with_line(13, "doors 2 - -"))
        self.wrong(15, with_more(15, "doors 1 - -"))
        for line in ("doors 0 - -", "doors 0 15 15", "doors 0 0 -", "doors 1 - -"):
            self.assertEqual(System(with_line(13, line)).text, with_line(13, line))

    def test_rights(self):
        self.line_wrong(15, "right 0 3 0 g0 sg - -", "right 0 0 16 g0 sg - -", "right 0 0 0 g3 sg - -", "right 0 0 0 t3 cg - -", "right 0 0 0 g0 g - -",
                        "right 0 0 0 g0 c - -", "right 0 0 0 g0 sg 1000 -", "right 0 0 0 t1 c 5 -", "right 0 0 0 g0 sg - 0", "right 0 0 0 g0 sg -",
                        "right 00 0 0 g0 sg - -", "right 9999 0 0 g0 sg - -", "right 0 0 0 g0 sg - - ", "rights 0 0 0 g0 sg - -", "doors 2 - -")
        self.line_wrong(16, "right 0 0 15 t2 cg - -", "right 4 0 0 t2 cg - -", "right 4 0 15 g0 sg - 5", "right 4 0 15 g1 sg - 0")
        self.line_wrong(17, "right 3 2 3 t2 c - 4", "right 5 2 3 t2 cg - 0", "right 5 0 15 t2 c - 4")
        self.line_wrong(18, "right 7 2 0 g0 sg 999 5", "right 7 2 3 g0 s 999 0")
        self.assertEqual(System("\n".join(LINES[:17] + ["right 9998 2 0 g0 s 999 0"] + LINES[18:])).rights.next, 9999)

    def test_first_rights_to_tasks_stand_above_them(self):
        chiefs = {1: 0, 2: 1}
        for task in range(3):
            for other in range(3):
                line = f"right 0 {task} 0 t{other} cg - -"
                above = [chiefs.get(other), chiefs.get(chiefs.get(other))]
                text = "\n".join(LINES[:14] + [line] + LINES[18:])
                if task in above:
                    self.assertEqual(System(text).rights.rows[0][1:4], (task, 0, f"t{other}"))
                    # Handed on it may stand anywhere.
                    for holder in range(3):
                        self.assertEqual(len(System(text.replace(line, f"{line}\nright 1 {holder} 9 t{other} c - 0")).rights.rows), 2)
                else:
                    self.wrong(15, text)

    def test_pages_by_their_form(self):
        self.line_wrong(19, "page 0 3 r 1 0", "page 0 0 r 1 0", "page 0 16 r 1 0", "page 3 9 r 1 0", "page 0 9 r 3 0", "page 0 9 r 1 16", "page 0 9 wr 1 0",
                        "page 0 9 - 1 0", "page 0 9 r 1", "page 0 9 r 1 0 0", "page 00 9 r 1 0", "Page 0 9 r 1 0", "words 2" + SIXTEEN + " 0")
        self.line_wrong(20, "page 0 9 rw 0 2", "page 0 8 rw 0 2")
        self.line_wrong(21, "page 1 0 w 1 0", "page 0 15 w 1 0")
        # Ahead of what BadSpaces tells besides.
        self.wrong(26, with_line(26, "turns").replace("page 0 9 r 1 0", "page 0 9 r 1 5"))
        self.wrong(21, with_line(21, "page 1 0 w 1 0").replace("page 0 9 r 1 0", "page 0 9 r 1 5"))
        self.wrong(26, "\n".join(LINES[:25]).replace("page 0 9 r 1 0", "page 0 9 r 1 5"))

    def test_pages_by_what_they_came_of(self):
        self.wrong(19, with_line(19, "page 0 9 r 1 1"))
        self.wrong(20, with_line(20, "page 1 0 rw 0 4"))
        self.wrong(21, with_line(21, "page 2 15 w 2 14"))
        # Parents without a frame, then rings, then letters, each time the first one.
        self.wrong(21, with_line(21, "page 2 15 w 2 14").replace("page 1 0 rw 0 2", "page 1 0 rw 0 9"))
        self.wrong(19, RICH.replace("page 1 0 rw 0 2", "page 1 0 rw 0 9"))
        self.wrong(20, with_line(20, "page 1 0 rw 1 0").replace("page 0 9 r 1 0", "page 0 9 x 0 1"))
        self.wrong(19, with_line(19, "page 0 9 rx 1 0"))
        self.wrong(21, with_line(21, "page 2 15 wx 1 0"))
        self.wrong(4, SMALL.replace("turns", "page 0 1 r 0 2\npage 0 2 r 0 1\nturns"))
        self.wrong(5, SMALL.replace("turns", "page 0 1 r 0 0\npage 0 2 r 0 3\npage 0 3 r 0 2\nturns"))

    def test_words(self):
        self.line_wrong(22, "words 4" + " 0" * 16, "words 0" + " 0" * 15, "words 0" + " 0" * 17, "words 0" + " 0" * 15 + " 65536", "words 00" + " 0" * 16,
                        "words 0" + " 0" * 15 + " -1", "words 0 65536" + " 0" * 15, "words 0 -" + " 0" * 15, "words 0" + " 00" * 16, "words -1" + " 0" * 16, "word 0" + " 0" * 16, "words", "page 2 16 r 1 0")
        self.line_wrong(23, "words 0" + SIXTEEN, "words 4" + SIXTEEN)
        self.wrong(24, with_more(24, "words 3" + SIXTEEN))
        self.wrong(24, with_more(24, "words 2" + SIXTEEN))
        self.assertEqual(System(with_line(22, "words 2" + SIXTEEN)).text, with_line(22, "words 2" + SIXTEEN))

    def test_devices(self):
        self.line_wrong(24, "device 3 0", "device -1 0", "device 2 65535", "device - 1", "device 2", "device 2 0 5 1", "device 2 0 0 1", "device 2 0 0", "none", "device 02 0",
                        "devices 2 0", "words 3" + SIXTEEN)
        self.line_wrong(25, "device 3 0", "device 0")
        self.wrong(28, with_more(26, "device 0 0", "device - 0", "device 0 0"))
        self.assertEqual(len(System(with_more(26, "device 0 0", "device - 0")).devices), 4)
        self.wrong(4, SMALL.replace("turns", "device 0 0\nturns"))
        self.assertEqual(System(SMALL.replace("turns", "device - 0\nturns")).devices.text, "device - 0")

    def test_turns(self):
        self.line_wrong(26, "turns", "turns ", "turns slices ", "turns slices 0 1", "turns table 0 1", "turns 0", "turns 0 1 2", "turns 6 1", "turns 0 0",
                        "turns 0 21", "turns 00 1", "turns" + " 0 1" * 9, "turn slices", "manner slices", "input 1 0 5", "")
        self.wrong(27, with_more(27, "turns slices"))
        self.wrong(27, with_more(27, LINES[25]))
        self.assertEqual(System(with_line(26, "turns slices")).turns.text.split("\n")[:2], ["manner slices", "thread 0 4 5 5"])

    def test_inputs(self):
        self.line_wrong(27, "input 0 0 5", "input 401 0 5", "input -1 0 5", "input 1 2 5", "input 1 -1 5", "input 1 - 5", "input 1 0 65536", "input 1 0 -1",
                        "input 1 0", "input 1 0 5 5", "input 01 0 5", "input 1 00 5", "input 1 0 05", "inputs 1 0 5", "Input 1 0 5", "")
        self.line_wrong(28, "input 1 0 6", "input 1 0 5", "input 1 0 4")
        self.line_wrong(29, "input 1 0 7", "input 1 1 7", "input 1 1 65535")
        self.wrong(30, with_more(30, "input 399 1 0"))
        self.wrong(30, with_more(30, "turns slices"))
        self.wrong(30, RICH + "\n")
        many = [f"input {tick} 0 0" for tick in range(2, 12)]
        self.wrong(39, "\n".join(LINES[:28] + many + ["input 400 0 0"]))
        self.assertEqual(len(System("\n".join(LINES[:28] + many)).inputs), 12)
        self.wrong(5, SMALL + "\ninput 1 0 0")

    def test_lines_twice(self):
        for number, line in enumerate(LINES, start=1):
            if line.startswith("device"):
                self.assertEqual(len(System(with_more(number, line)).devices), 3)
            else:
                self.wrong(number + 1, with_more(number, line))

    def test_lines_out_of_sequence(self):
        """A line that is right behind those of its kind is wrong behind any of a later one."""
        extra = {"frames": "frames 5", "task": "task 3 0", "thread": "thread 3 0 0 0 1 rests", "gate": "gate 3 0", "border": "border 1 1",
                 "doors": "doors 2 15 0", "right": "right 8 0 4 g0 s - -", "page": "page 2 15 w 1 0", "words": "words 3" + SIXTEEN,
                 "device": "device 1 3", "turns": "turns slices", "input": "input 400 0 0"}
        base = [line for line in LINES if line not in extra.values()]
        last = {line.split(" ")[0]: number for number, line in enumerate(base, start=1)}
        self.assertEqual(list(last), list(extra))
        for at, kind in enumerate(extra):
            for later in list(extra)[at:]:
                text = "\n".join(base[:last[later]] + [extra[kind]] + base[last[later]:])
                if later == kind and kind not in ("frames", "turns"):
                    self.assertEqual(System(text).text, text)
                else:
                    self.wrong(last[later] + 1, text)

    def test_missing_lines(self):
        for kind, number in (("frames", 1), ("task", 2), ("thread", 5), ("turns", 26)):
            self.wrong(number, "\n".join(line for line in LINES if not line.startswith(kind + " ")))
        for many in range(1, 26):
            self.wrong(many + 1, "\n".join(LINES[:many]))
        self.wrong(2, "frames 4")
        self.wrong(3, "frames 4\ntask 0 -")
        self.wrong(4, SMALL[:SMALL.index("\nturns")])
        for kind in ("border", "doors", "words", "input"):
            text = "\n".join(line for line in LINES if not line.startswith(kind + " "))
            self.assertEqual(System(text).text, text)

    def test_other_words(self):
        for number in range(1, 31):
            for line in ("", " ", "none", "world spaces", "manner slices", "kernel", "LINES"):
                self.wrong(number, with_more(number, line))


class InputsTest(unittest.TestCase, Checks):
    def test_with_inputs(self):
        system = System(RICH)
        for inputs in ((), ((1, 0, 0),), ((400, 1, 65535),), ((3, 0, 9), (3, 1, 0), (4, 0, 9)), system.inputs,
                       tuple((tick, 1, 7) for tick in range(1, 13))):
            later = system.with_inputs(inputs)
            self.same(later.inputs, inputs)
            self.assertEqual(later.text, "\n".join(LINES[:26] + [f"input {tick} {device} {word}" for tick, device, word in inputs]))
            self.assertTrue(System(later.text) == later)
            self.assertTrue(later.with_inputs(system.inputs) == system)
        self.assertEqual((system.text, len(system.inputs)), (RICH, 3))
        self.assertEqual(System(SMALL).with_inputs(()).text, SMALL)

    def test_wrong_inputs(self):
        system = System(RICH)
        wrong = [((0, 0, 0),), ((401, 0, 0),), ((-1, 0, 0),), ((True, 0, 0),), ((1, 2, 0),), ((1, -1, 0),), ((1, False, 0),), ((1, None, 0),),
                 ((1, 0, 65536),), ((1, 0, -1),), ((1, 0, True),), ((1, 0),), ((1, 0, 0, 0),), ([1, 0, 0],), [(1, 0, 0)], (1, 0, 0),
                 ((1, 0, 0), (1, 0, 1)), ((1, 0, 1), (1, 0, 0)), ((1, 0, 0), (1, 0, 0)), ((2, 0, 0), (1, 0, 0)), ((1, 1, 0), (1, 0, 0)),
                 ((1, 0, 0), None), tuple((tick, 1, 7) for tick in range(1, 14))]
        for inputs in wrong:
            self.fails(BadInputs, inputs, system.with_inputs, inputs)
        for value in ANY_VALUES:
            if value != ():
                self.fails(BadInputs, value, system.with_inputs, value)
            self.fails(BadInputs, (value,), system.with_inputs, (value,))
        self.fails(BadInputs, ((1, 0, 0),), System(SMALL).with_inputs, ((1, 0, 0),))


if __name__ == "__main__":
    unittest.main()
