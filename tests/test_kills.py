"""Kills: what goes, what points at tasks, and a kill at a kernel, step by step."""

import unittest

from helpers import ANY_VALUES, Checks, is_int
from stage import CODE, HEAD, PAGES, RIGHTS, TRAP, act, by_place, edited, limits, receiving, sixteen, stage, told_by
from clankernel.errors import BadTasks, NoTask, Root
from clankernel.images import from_image, image
from clankernel.kernel import Kernel
from clankernel.kills import goes, pointing
from clankernel.systems import System

W = (1, 2, 3, 4)
NAMES = ("clans", "devices", "passing", "rights", "spaces", "turns", "waits")


def killed(kernel, thread=0, place=10):
    """A kill by a right in this place."""
    return told_by(kernel, thread, 3, 2, place)


class GoesTest(unittest.TestCase, Checks):
    def test_what_goes(self):
        kernel = stage()
        self.same(goes(kernel, 1), ((1, 3), (1, 3, 5), (1, 3, 5)))
        self.same(goes(kernel, 2), ((2, 4), (2, 4, 6), (2, 4, 6)))
        self.same(goes(kernel, 3), ((3,), (3,), (3,)))
        self.same(goes(task=4, kernel=kernel), ((4,), (4,), (4,)))
        self.assertEqual(kernel.tick, 0)

    def test_wrong_tasks(self):
        kernel = stage()
        for value in ANY_VALUES + (5, -1, 999):
            if not is_int(value, 0, 4):
                self.fails(NoTask, value, goes, kernel, value)
        self.fails(Root, 0, goes, kernel, 0)
        kernel, _ = killed(kernel)
        for task in (1, 3):
            self.fails(NoTask, task, goes, kernel, task)
        self.same(goes(kernel, 2), ((2, 4), (2, 4, 6), (2, 4, 6)))

    def test_a_task_without_threads(self):
        head = HEAD.replace("thread 3 3", "thread 3 1")
        self.same(goes(stage(head=head), 3), ((3,), (), ()))


class PointingTest(unittest.TestCase, Checks):
    def test_wrong_tasks(self):
        kernel = stage()
        for value in ANY_VALUES + ((1, 1), (2, 1), (-1,), (1000,), (True,), (1, "2"), [1], (0, 1000)):
            right = type(value) is tuple and all(is_int(task, 0, 999) for task in value) and list(value) == sorted(set(value))
            if not right:
                self.fails(BadTasks, value, pointing, kernel, value)

    def test_each_name_by_itself(self):
        base = stage(devices=["device - 0"], rights=[], pages=["page 1 0 rx 0 0"])
        self.same(pointing(base, (4,)), ("clans", "waits"))
        self.same(pointing(base, (1,)), ("clans", "spaces", "waits"))
        self.same(pointing(kernel=base, tasks=(0,)), ("clans", "waits"))
        for tasks in ((), (5,), (6, 999)):
            self.same(pointing(base, tasks), ())
        device = stage(devices=["device 4 0"], rights=[], pages=[])
        self.same([pointing(device, (task,)) for task in (3, 4)], [("clans", "waits"), ("clans", "devices", "waits")])
        row = edited(base, row=(4,))
        self.same(pointing(row, (4,)), ("clans", "turns", "waits"))
        # Rights in the table, to the gate, to the task.
        for line in ("right 0 3 0 g0 s - -", "right 0 0 0 g3 s - -", "right 0 0 0 t3 c - -"):
            rights = stage(devices=["device - 0"], rights=[line], pages=[])
            self.same(pointing(rights, (3,)), ("clans", "rights", "waits"))
            self.same(pointing(rights, (2,)), ("clans", "waits"))
        self.same(pointing(stage(devices=[], rights=[], pages=["page 0 15 r 0 0"], head=HEAD.replace("frames 16", "frames 4")), (0,)), ("clans", "spaces", "waits"))

    def test_passing_rights(self):
        # 4 means gate 0, and its chief 2 has the passing right.
        kernel, _ = told_by(receiving(stage(), 2), 4, 0, 0, 255, 0)
        self.same([("passing" in pointing(kernel, (task,))) for task in range(5)], [True, False, True, False, False])

    def test_turns_by_threads_that_hang(self):
        kernel, _ = told_by(stage(), 1, 0, 2, 255, limits(None, 0))
        self.same([("turns" in pointing(kernel, (task,))) for task in range(5)], [False, True, True, False, False])

    def test_behind_a_kill_nothing_points(self):
        kernel = stage(doors=["doors 1 2 2", "doors 4 3 3"])
        self.same(pointing(kernel, (1, 3)), ("clans", "devices", "rights", "spaces", "waits"))
        kernel, _ = told_by(receiving(kernel, 2), 4, 0, 1, 255, 0)
        kernel, _ = act(edited(kernel, row=(1, 3, 5)), 1, TRAP)
        self.same(pointing(kernel, (1, 3)), NAMES)
        kernel, _ = killed(kernel)
        for tasks in ((1,), (3,), (1, 3), (1, 3, 5)):
            self.same(pointing(kernel, tasks), ())
        self.assertNotEqual(pointing(kernel, (0, 1)), ())


class KillTest(unittest.TestCase, Checks):
    def test_the_events_in_their_sequence(self):
        kernel = stage(pages=by_place(PAGES + ["page 2 9 r 1 1"]))
        # 2 sends to 1; 6 calls 3, over the border of 1.
        kernel, _ = told_by(kernel, 2, 0, 1, 255, limits(None, 0), *W)
        kernel, _ = told_by(kernel, 6, 0, 3, 253, limits(None, None), *W)
        kernel, events = killed(kernel)
        gone = tuple(number for number in range(43) if 7 <= number < 14 or 21 <= number < 28 or number in (40, 42)
                     or (number < 35 and number % 7 in (1, 3, 5)))
        self.same(events, (("killed", (1, 3)), ("pages", ((1, 0), (1, 1), (1, 2), (2, 9), (3, 0), (3, 1))), ("rights", gone),
                           ("result", 0, 0), ("result", 2, 3), ("result", 6, 3)))
        self.assertEqual([kernel.state(thread) for thread in range(7)], ["ready", "gone", "ready", "gone", "rests", "gone", "ready"])
        self.assertEqual((kernel.turns.row, kernel.turns.waits, kernel.clans.tasks), ((0, 2, 6), (), (0, 2, 4)))
        self.assertEqual([kernel.cell(thread).registers[0] for thread in (0, 2, 6)], [0, 3, 3])
        self.assertEqual(kernel.devices.text, "device - 0\ndevice - 0\ndevice - 0")

    def test_who_waits_for_a_reply_and_who_was_called(self):
        kernel, _ = told_by(receiving(stage(), 1), 2, 0, 1, 253, limits(0, None), *W)
        self.assertEqual(kernel.turns.calls, ((2, 1),))
        later, events = killed(kernel)
        self.same(events[-2:], (("result", 0, 0), ("result", 2, 4)))
        self.assertEqual((later.turns.row, later.turns.calls), ((0, 2), ()))
        # The caller goes: who owes it a reply owes none, and goes on.
        kernel, _ = told_by(receiving(stage(), 2), 1, 0, 2, 253, limits(0, None), *W)
        later, events = killed(kernel)
        self.same(events[3:], (("result", 0, 0),))
        self.assertEqual((later.turns.row, later.turns.calls, later.waits.owes(2), later.state(2)), ((0, 2), (), None, "ready"))
        _, events = told_by(later, 2, 0, 254, 255, 0)
        self.same(events, (("result", 2, 8),))

    def test_faults_rest(self):
        """One that waits to be met, one that waits for its answer, by one that goes: they rest, and are told nothing."""
        doors = ["doors 2 - 1", "doors 6 - 1"]
        kernel, _ = act(receiving(stage(doors=doors), 1), 6, TRAP)
        kernel, _ = act(kernel, 2, TRAP)
        self.assertEqual([kernel.state(thread) for thread in (2, 6)], ["faults", "faults"])
        kernel, events = killed(kernel)
        self.same(events[3:], (("result", 0, 0), ("rests", 2), ("rests", 6)))
        self.assertEqual([kernel.state(thread) for thread in (2, 6)], ["rests", "rests"])
        self.assertEqual((kernel.cell(2).registers, kernel.cell(2).place, kernel.turns.row), ((0,) * 8, TRAP + 1, (0,)))

    def test_results_and_rests_by_threads(self):
        kernel, _ = act(stage(doors=["doors 2 - 1"]), 2, TRAP)
        kernel, _ = told_by(kernel, 6, 0, 1, 253, limits(None, None))
        kernel, events = killed(kernel)
        self.same(events[3:], (("result", 0, 0), ("rests", 2), ("result", 6, 3)))

    def test_a_caller_that_goes_itself(self):
        rights = RIGHTS + ["right 43 3 10 t1 cg - 40"]
        kernel, events = killed(stage(rights=rights), 3)
        self.assertEqual([event[0] for event in events], ["killed", "pages", "rights"])
        self.assertEqual((kernel.state(3), kernel.turns.row, kernel.cell(3).registers[0]), ("gone", (), 2))
        self.same(kernel.run(1)[0][1:], ("idle",))

    def test_another_one_by_a_right_that_was_handed(self):
        # Task 1 kills its child 3; task 0 stays.
        kernel, events = killed(stage(), 1)
        self.same((events[0], events[-1]), (("killed", (3,)), ("result", 1, 0)))
        self.assertEqual((kernel.clans.tasks, kernel.clans.fresh, kernel.spaces.tasks), ((0, 1, 2, 4), 5, 5))
        # One above the caller: task 4, which is beneath 2, by a right to 1.
        rights = RIGHTS + ["right 43 4 10 t1 c - 40"]
        kernel, events = killed(stage(rights=rights), 4)
        self.same((events[0], events[-1]), (("killed", (1, 3)), ("result", 4, 0)))

    def test_the_root_is_not_killed(self):
        # No system tells a right to it; an image may.
        text = image(stage(rights=["right 0 1 0 g0 sg - -"])).replace("right 0 1 0 g0 sg - -", "right 0 1 0 t0 cg - -")
        kernel, events = told_by(from_image(text), 1, 3, 2, 0)
        self.same((events, kernel.clans.tasks), ((("result", 1, 13),), (0, 1, 2, 3, 4)))

    def test_gates_and_threads_of_other_numbers(self):
        """Task 1 goes with thread 2 and gates 0 and 3, of which one is its border."""
        text = """frames 2
task 0 -
task 1 0
task 2 0
task 3 2
thread 0 0 0 4 9 ready
thread 1 2 0 4 9 rests
thread 2 1 0 4 9 rests
thread 3 3 0 4 9 rests
gate 0 2
gate 1 1
gate 2 3
gate 3 2
gate 4 0
border 1 3
border 2 1
right 0 0 10 t1 c - -
right 1 0 0 g0 s - -
right 2 0 1 g1 s - -
right 3 0 2 g2 s - -
right 4 0 3 g3 s - -
right 5 0 4 g4 s - -
page 1 0 rx 0 0
page 2 0 rx 0 0
page 3 0 rx 0 0
words 0 """ + " ".join(map(str, CODE)) + """
device 2 0
device 1 0
device 3 9
turns slices"""
        kernel = Kernel(System(text))
        self.same(goes(kernel, 1), ((1,), (2,), (0, 3)))
        kernel, events = told_by(edited(kernel, row=(3, 2, 0)), 0, 3, 2, 10)
        self.same(events, (("killed", (1,)), ("pages", ((1, 0),)), ("rights", (0, 1, 4)), ("result", 0, 0)))
        self.assertEqual(kernel.turns.row, (0, 3))
        self.assertEqual([kernel.state(thread) for thread in range(4)], ["ready", "rests", "gone", "ready"])
        self.assertEqual(kernel.devices.text, "device 2 0\ndevice 1 0\ndevice - 0")
        self.assertEqual([line for line in image(kernel).split("\n") if line.startswith("border")], ["border 2 1"])
        self.same([pointing(kernel, (task,)) for task in range(4)], [("clans", "rights", "turns", "waits"), (), ("clans", "devices", "rights", "spaces", "waits"), ("clans", "devices", "rights", "spaces", "turns", "waits")])
        # What is meant for a gate that goes has another number than its threads.
        kernel = Kernel(System(text.replace("right 1 0 0 g0 s - -", "right 1 3 0 g0 s - -")))
        kernel, _ = told_by(receiving(kernel, 1), 3, 0, 0, 255, 0)
        self.same(kernel.passing(1), (0, None, 3))
        kernel, _ = told_by(edited(kernel, row=()), 0, 3, 2, 10)
        self.same(kernel.passing(1), None)

    def test_twice_and_what_is_no_right(self):
        kernel, _ = killed(stage())
        _, events = killed(kernel)
        self.same(events, (("result", 0, 8),))
        kernel, events = killed(kernel, 0, 11)
        self.same((events[0], kernel.clans.tasks), (("killed", (4,)), (0, 2)))

    def test_passing_rights(self):
        # 2 has a passing right meant for gate 1; 1 has one meant for gate 2, and goes.
        kernel, _ = told_by(receiving(stage(), 2), 4, 0, 1, 255, 0)
        kernel, _ = told_by(receiving(kernel, 1), 3, 0, 2, 255, 0)
        self.same((kernel.passing(2), kernel.passing(1)), ((1, None, 4), (2, 302, 3)))
        later, _ = killed(kernel)
        self.same((later.passing(2), later.passing(1)), (None, None))
        # That of a task that goes, but is meant for one that stays, whose holder stays.
        later, _ = killed(kernel, 0, 11)
        self.same((later.passing(2), later.passing(1)), ((1, None, 4), (2, 302, 3)))
        later, events = told_by(receiving(later, 1), 2, 0, 253, 255, 0, *W)
        self.same(events[0], ("met", "sent", 2, 1, 1, None, W))

    def test_a_waiting_message_whose_meant_gate_goes(self):
        # 4 means gate 1, and waits at the border of its chief 2.
        kernel, _ = told_by(stage(), 4, 0, 1, 255, limits(None, 0), *W)
        self.assertIn("\nmeant 4 1 4\n", image(kernel))
        kernel, events = killed(kernel)
        self.same(events[-1], ("result", 0, 0))
        self.assertNotIn("meant", image(kernel))
        self.assertEqual(kernel.state(4), "sends")
        kernel, events = told_by(kernel, 2, 0, 255, 254, 0)
        self.same(events, (("met", "sent", 4, 2, 6, None, W), ("result", 4, 0)))
        self.same((kernel.cell(2).registers[7], kernel.passing(2)), (0, None))

    def test_items_and_faults_of_threads_that_go(self):
        kernel = stage(doors=["doors 3 - 1", "doors 5 - 2"], words={2: sixteen()})
        kernel, _ = told_by(kernel, 1, 0, 2, 255, limits(None, 0), *W, 16)
        kernel, _ = act(kernel, 5, TRAP)
        kernel, _ = act(kernel, 3, TRAP)
        self.assertEqual([line.split(" ")[0] for line in image(kernel).split("\n") if line.split(" ")[0] in ("items", "fault", "meant")],
                         ["items", "fault", "fault"])
        kernel, _ = killed(kernel)
        self.assertEqual([line for line in image(kernel).split("\n") if line.split(" ")[0] in ("items", "fault", "meant", "passing")], [])
        self.assertEqual([line for line in image(kernel).split("\n") if line.startswith("border")], ["border 2 6"])

    def test_devices(self):
        devices = ["device 1 70", "device 2 71", "device 5 0", "device - 0"]
        kernel = stage(devices=devices)
        kernel.tell(0, 9)
        kernel.run(1)
        kernel, _ = killed(kernel)
        self.assertEqual(kernel.devices.text, "device - 0 9 1\ndevice 2 71\ndevice - 0\ndevice - 0")
        kernel.tell(0, 8)
        self.same(kernel.run(1)[0][1:], ("rang", 0, 8))
        self.assertEqual(kernel.devices.text.split("\n")[0], "device - 0 8 2")

    def test_pages_beneath_go_with_their_task(self):
        kernel, events = killed(stage(pages=by_place(PAGES + ["page 2 9 rw 1 1", "page 4 9 r 2 9"])))
        self.same(events[1], ("pages", ((1, 0), (1, 1), (1, 2), (2, 9), (3, 0), (3, 1), (4, 9))))
        self.assertEqual([page[0] for page in kernel.spaces.pages if page[0] in (1, 3)], [])

    def test_rights_beneath_go_with_their_task(self):
        # A copy that task 1 made of its right to gate 2 and handed to task 2 goes with it.
        rights = RIGHTS + ["right 43 2 12 g2 s 102 9", "right 44 4 12 g2 s 102 43"]
        kernel, events = killed(stage(rights=rights))
        self.assertTrue({43, 44, 9} <= set(events[2][1]))
        self.assertEqual([row[0] for row in kernel.rights.rows if row[3] == "g2"], [2, 16, 30])

    def test_nothing_to_tell(self):
        """A task that has no pages and no rights: only that it was killed."""
        rights = ["right 40 0 10 t1 cg - -", "right 41 0 11 t4 cg - -"]
        kernel, events = killed(stage(rights=rights, pages=[]), 0, 11)
        self.same(events, (("killed", (4,)), ("rights", (41,)), ("result", 0, 0)))

    def test_it_goes_on_behind_an_image(self):
        kernel, _ = killed(told_by(stage(), 4, 0, 1, 253, limits(None, None))[0])
        self.assertTrue(from_image(image(kernel)) == kernel)
        self.same(from_image(image(kernel)).run(5), kernel.copy().run(5))


if __name__ == "__main__":
    unittest.main()
