"""The kernel from outside: what it tells, its deeds, ticks, inputs, and what is refused."""

import unittest

from helpers import ANY_VALUES, Checks, is_int
from stage import ADD, CODE, DEVICES, HEAD, JUMP, SET, acting, edited, limits, receiving, sixteen, stage, told_by
from clankernel.cells import Cell
from clankernel.errors import (
    BadNumber, BadWord, Late, NoDevice, NoFrame, NoTask, NoThread, NothingToRedo)
from clankernel.images import image
from clankernel.kernel import Kernel
from clankernel.systems import System

SMALL = "frames 1\ntask 0 -\nthread 0 0 3 4 5 ready\nturns slices"


class AtTick0Test(unittest.TestCase, Checks):
    def test_all_stands_as_the_system_tells(self):
        system = stage(doors=("doors 1 3 -", "doors 2 - 15", "doors 4 0 0", "doors 5 15 1")).system
        kernel = Kernel(system)
        self.assertIs(kernel.system, system)
        self.same((kernel.tick, kernel.deeds, kernel.done), (0, (), 0))
        for name in ("spaces", "rights", "clans", "waits", "turns", "devices"):
            self.assertTrue(getattr(kernel, name) == getattr(system, name), name)
        self.assertEqual([kernel.doors(thread) for thread in range(7)],
                         [(None, None), (3, None), (None, 15), (None, None), (0, 0), (15, 1), (None, None)])
        self.assertEqual([kernel.passing(thread) for thread in range(7)], [None] * 7)
        self.assertEqual([kernel.state(thread) for thread in range(7)], ["rests"] * 7)

    def test_cells_and_words(self):
        kernel = Kernel(System(SMALL.replace("turns", "words 0 " + " ".join(str(n) for n in range(16)) + "\nturns")))
        self.assertTrue(kernel.cell(0) == Cell((0,) * 8, 3))
        self.same([kernel.word(0, at) for at in range(16)], list(range(16)))
        self.assertEqual([kernel.read(0, at) for at in (0, 15, 16, 255)], [0, 15, None, None])
        self.assertEqual(kernel.state(0), "ready")
        self.assertEqual(Kernel(System(SMALL)).word(0, 15), 0)

    def test_attributes_are_set_at_once(self):
        kernel = Kernel(System(SMALL))
        for name in "system tick spaces rights clans waits turns devices deeds done".split():
            self.assertIn(name, vars(kernel))

    def test_reading_goes_by_letters(self):
        pages = ["page 1 0 rx 0 0", "page 1 1 w 0 2", "page 1 2 x 0 2", "page 1 3 rw 0 2"]
        kernel = stage(pages=pages, words={2: sixteen(7, 8)})
        self.assertEqual([kernel.read(1, at) for at in (0, 16, 32, 48, 49, 64)], [CODE[0], None, None, 7, 8, None])
        self.assertEqual([kernel.read(0, 32), kernel.read(0, 33), kernel.read(2, 0)], [7, 8, None])

    def test_wrong_numbers(self):
        kernel = stage()
        for call in (kernel.cell, kernel.state, kernel.doors, kernel.passing):
            self.refuses(NoThread, call, lambda value: is_int(value, 0, 6))
            for value in (-1, 7, 8):
                self.fails(NoThread, value, call, value)
        for value in ANY_VALUES + (16, -1, 17):
            if not is_int(value, 0, 15):
                self.fails(NoFrame, value, kernel.word, value, 99)
                self.fails(BadNumber, value, kernel.word, 3, value)
            if not is_int(value, 0, 4):
                self.fails(NoTask, value, kernel.read, value, 999)
            if not is_int(value, 0, 255):
                self.fails(BadNumber, value, kernel.read, 0, value)
        self.fails(NoFrame, 1, Kernel(System(SMALL)).word, 1, 0)
        self.fails(NoTask, 5, kernel.read, 5, 0)
        self.fails(BadNumber, 256, kernel.read, 4, 256)

    def test_arguments_by_name(self):
        kernel = stage()
        self.assertEqual(kernel.word(at=0, frame=0), CODE[0])
        self.assertEqual(kernel.read(address=1, task=1), CODE[1])
        self.assertEqual((kernel.state(thread=1), kernel.doors(thread=1), kernel.passing(thread=1)), ("rests", (None, None), None))
        self.assertEqual(kernel.cell(thread=1).place, 0)
        self.assertIsNone(kernel.tell(word=3, device=1))
        self.same(kernel.run(ticks=1), ((1, "rang", 1, 3), (1, "idle")))
        self.assertEqual(Kernel(system=kernel.system).tick, 0)


class DeedsTest(unittest.TestCase, Checks):
    def test_run_counts_ticks_and_tells_events(self):
        kernel = Kernel(System(SMALL))
        self.same(kernel.run(2), ((1, "fault", 0, ("row", 0)), (1, "rests", 0), (2, "idle")))
        self.same((kernel.tick, kernel.waits.now, kernel.deeds, kernel.done), (2, 2, (("run", 2),), 1))
        self.same(kernel.run(1), ((3, "idle"),))
        self.same((kernel.deeds, kernel.done), ((("run", 2), ("run", 1)), 2))

    def test_run_refuses(self):
        kernel = Kernel(System(SMALL))
        self.refuses(BadNumber, kernel.run, lambda value: is_int(value, 1, 400))
        for value in (0, -1, 401, 999999999):
            self.fails(BadNumber, value, kernel.run, value)
        self.assertEqual((kernel.tick, kernel.deeds), (0, ()))
        kernel.run(399)
        self.fails(Late, 400, kernel.run, 2)
        self.fails(Late, 400, kernel.run, 400)
        self.fails(BadNumber, 401, kernel.run, 401)
        kernel.run(1)
        self.fails(Late, 400, kernel.run, 1)
        self.fails(BadNumber, 0, kernel.run, 0)
        self.assertEqual((kernel.tick, kernel.done), (400, 2))
        whole = Kernel(System(SMALL))
        self.assertEqual(len(whole.run(400)), 401)
        self.assertTrue(whole == kernel)

    def test_tell_refuses(self):
        kernel = stage()
        for value in ANY_VALUES + (3, -1, 4):
            if not is_int(value, 0, 2):
                self.fails(NoDevice, value, kernel.tell, value, "no word")
            if not is_int(value, 0, 65535):
                self.fails(BadWord, value, kernel.tell, 2, value)
        self.fails(NoDevice, 0, Kernel(System(SMALL)).tell, 0, 0)
        kernel.run(399)
        self.assertIsNone(kernel.tell(0, 5))
        self.same(kernel.run(1), ((400, "rang", 0, 5), (400, "idle")))
        self.fails(NoDevice, 3, kernel.tell, 3, 70000)
        self.fails(BadWord, 70000, kernel.tell, 2, 70000)
        self.fails(Late, 400, kernel.tell, 2, 7)

    def test_what_is_refused_changes_nothing(self):
        kernel = stage()
        kernel.run(3)
        kernel.tell(0, 7)
        kernel.undo()
        before = image(kernel)
        for call, args in ((kernel.run, (0,)), (kernel.run, (398,)), (kernel.run, (None,)), (kernel.tell, (3, 0)), (kernel.tell, (0, -1)),
                           (kernel.cell, (7,)), (kernel.word, (16, 0)), (kernel.read, (5, 0)), (kernel.keep, ())):
            self.assertRaises(ValueError, call, *args)
            self.same((image(kernel), kernel.deeds, kernel.done), (before, (("run", 3),), 1))
        # What was taken back can still be done again.
        kernel.redo()
        self.same(kernel.deeds, (("run", 3), ("tell", 0, 7)))
        self.fails(NothingToRedo, None, kernel.redo)

    def test_a_run_is_the_runs_that_it_is_split_into(self):
        kernel = acting(stage(inputs=("input 3 0 9", "input 5 2 8")), 0, JUMP)
        whole, parts = kernel.copy(), kernel.copy()
        events = whole.run(12)
        self.same(parts.run(1) + parts.run(4) + parts.run(7), events)
        self.assertTrue(whole == parts)
        self.assertEqual((whole.deeds, parts.deeds), ((("run", 12),), (("run", 1), ("run", 4), ("run", 7))))


class InputsTest(unittest.TestCase, Checks):
    def test_inputs_ring_at_their_ticks(self):
        kernel = stage(inputs=("input 2 0 5", "input 2 2 6", "input 4 1 7"))
        self.same(kernel.run(5), ((1, "idle"), (2, "rang", 0, 5), (2, "rang", 2, 6), (2, "idle"), (3, "idle"), (4, "rang", 1, 7), (4, "idle"), (5, "idle")))
        self.assertEqual(kernel.devices.text, "device 1 70 5 1\ndevice - 0 7 1\ndevice 5 71 6 1")

    def test_what_is_told_rings_next_behind_the_systems_and_what_was_told_ahead(self):
        kernel = stage(inputs=("input 1 2 6", "input 2 1 9"))
        kernel.tell(0, 1)
        kernel.tell(2, 2)
        kernel.tell(0, 3)
        self.same(kernel.deeds, (("tell", 0, 1), ("tell", 2, 2), ("tell", 0, 3)))
        self.assertEqual((kernel.tick, kernel.devices.text), (0, "\n".join(DEVICES)))
        self.same(kernel.run(1), ((1, "rang", 2, 6), (1, "rang", 0, 1), (1, "rang", 2, 2), (1, "rang", 0, 3), (1, "idle")))
        self.assertEqual(kernel.devices.text, "device 1 70 3 2\ndevice - 0\ndevice 5 71 2 2")
        kernel.tell(1, 4)
        self.same(kernel.run(1), ((2, "rang", 1, 9), (2, "rang", 1, 4), (2, "idle")))

    def test_a_device_is_met_as_its_owner_receives(self):
        kernel = receiving(stage(), 1)
        kernel.tell(0, 500)
        kernel.tell(1, 7)
        self.same(kernel.run(1), ((2, "rang", 0, 500), (2, "rang", 1, 7), (2, "met", "device", None, 1, 1, 70, (8, 0, 500, 1)), (2, "idle")))
        self.same(kernel.cell(1).registers, (0, 70, 1, 8, 0, 500, 1, 0))
        self.assertEqual((kernel.state(1), kernel.turns.row, kernel.waits.owes(1)), ("ready", (1,), None))
        self.assertEqual(kernel.devices.text, "device 1 70\ndevice - 0 7 1\ndevice 5 71")

    def test_one_receive_takes_one_message_the_first_devices(self):
        kernel = receiving(stage(), 1)
        kernel.tell(2, 9)
        kernel.tell(2, 8)
        kernel.tell(0, 5)
        events = kernel.run(1)
        self.same(events[3:], ((2, "met", "device", None, 1, 1, 70, (8, 0, 5, 1)), (2, "idle")))
        # The other one waits until somebody receives, over the gate to which it is bound.
        kernel = receiving(kernel, 1, 1)
        self.assertEqual(kernel.run(1), ((4, "idle"),))
        kernel, events = told_by(kernel, 3, 0, 1, 255, limits(0, 0))
        self.assertEqual(events[0][:3], ("met", "sent", 3))
        kernel = edited(receiving(kernel, 1, 5), row=())
        self.same(kernel.run(1), ((7, "met", "device", None, 1, 5, 71, (8, 2, 8, 2)), (7, "idle")))

    def test_two_devices_at_two_owners_in_one_tick(self):
        devices = ["device 2 1", "device 1 2", "device 2 3"]
        kernel = receiving(receiving(stage(devices=devices), 1), 2)
        for device in (2, 1, 0):
            kernel.tell(device, device)
        self.same(kernel.run(1)[3:], ((3, "met", "device", None, 2, 2, 1, (8, 0, 0, 1)), (3, "met", "device", None, 1, 1, 2, (8, 1, 1, 1)), (3, "idle")))
        self.assertEqual((kernel.turns.row, kernel.devices.text), ((2, 1), "device 2 1\ndevice 1 2\ndevice 2 3 2 1"))

    def test_a_receive_with_limit_0_meets_no_device(self):
        kernel = stage()
        kernel.tell(0, 5)
        kernel.run(1)
        kernel, events = told_by(kernel, 1, 0, 255, 254, limits(0, 0))
        self.same(events, (("result", 1, 2),))
        # With a limit of more than one tick it is met at the next one, though it rang long ago.
        kernel = edited(receiving(kernel, 1, limit=2), row=())
        self.same(kernel.run(1), ((4, "met", "device", None, 1, 1, 70, (8, 0, 5, 1)), (4, "idle")))

    def test_a_limit_that_ends_comes_ahead_of_devices(self):
        kernel = receiving(stage(), 1, limit=1)
        kernel.tell(0, 5)
        self.same(kernel.run(1), ((2, "result", 1, 2), (2, "rang", 0, 5), (2, "idle")))
        kernel = receiving(stage(), 1, limit=2)
        kernel.tell(0, 5)
        self.same(kernel.run(1)[1], (2, "met", "device", None, 1, 1, 70, (8, 0, 5, 1)))


class TicksTest(unittest.TestCase, Checks):
    def test_idle_and_running_ticks(self):
        # By table: two ticks of task 0, then one of task 1, which has nobody ready.
        kernel = acting(stage(turns="0 2 1 1"), 0, SET)
        self.same(kernel.run(4), ((1, "row", 0, SET), (2, "row", 0, ADD), (3, "idle"), (4, "fault", 0, ("row", 0)), (4, "rests", 0)))
        self.same(kernel.cell(0).registers[0], 14)
        self.assertEqual(kernel.turns.at, 1)

    def test_the_sequence_within_a_tick(self):
        """Limits, inputs, devices, the row, its call: in this sequence, and by all of them turns change behind."""
        kernel = receiving(receiving(stage(), 2, limit=3), 1)
        self.same(kernel.run(1), ((3, "idle"),))
        kernel = acting(kernel, 0, 0, 2, 255, limits(9, 0))
        kernel.tell(0, 5)
        self.same(kernel.run(1), ((4, "result", 2, 2), (4, "rang", 0, 5), (4, "met", "device", None, 1, 1, 70, (8, 0, 5, 1)),
                                  (4, "row", 0, 0), (4, "call", 0, 0)))
        self.assertEqual((kernel.turns.row, kernel.turns.waits), ((2, 1), ((0, 2),)))
        self.assertEqual([kernel.state(thread) for thread in range(3)], ["sends", "ready", "ready"])

    def test_who_is_woken_in_a_tick_runs_from_the_next_one_on(self):
        head = HEAD.replace("thread 1 1 0 4 20", "thread 1 1 0 7 20")
        kernel = edited(receiving(stage(head=head), 1), {0: (JUMP, ())}, (0,))
        kernel.tell(0, 5)
        self.same(kernel.run(1)[2:], ((2, "row", 0, JUMP),))
        # It stands behind thread 0, and is greater.
        self.assertEqual((kernel.turns.row, kernel.turns.next), ((0, 1), 1))
        self.assertEqual(kernel.run(1)[0][:3], (3, "row", 1))

    def test_slices(self):
        head = HEAD.replace("0 4 20", "0 4 2")
        kernel = edited(stage(head=head), {0: (JUMP, ()), 1: (JUMP, ())}, (0, 1))
        kernel = edited(kernel, {thread: (SET, ()) for thread in (0, 1)})
        self.same(kernel.run(4), ((1, "row", 0, SET), (2, "row", 0, ADD), (3, "row", 1, SET), (4, "row", 1, ADD)))
        self.assertEqual(kernel.turns.row, (0, 1))


if __name__ == "__main__":
    unittest.main()
