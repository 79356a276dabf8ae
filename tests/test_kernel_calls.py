"""K 1 to K 4: each number of r0, each register at its bounds and beyond, and what the worlds refuse."""

import unittest

from helpers import Checks
from stage import EVER, HEAD, PAGES, RIGHTS, TRAP, act, by_place, edited, limits, receiving, stage, told_by

W = (1, 2, 3, 4)


class Calls(unittest.TestCase, Checks):
    def result(self, number, call, *registers, thread=1, kernel=None):
        """The call brings just this number, and changes nothing else."""
        before = kernel or stage()
        later, events = told_by(before, thread, call, *registers)
        self.same(events, (("result", thread, number),))
        self.same(later.cell(thread).registers, (number,) + registers[1:] + (0,) * (8 - len(registers)))
        self.assertEqual((later.spaces.text, later.rights.text), (before.spaces.text, before.rights.text))
        return later


class UnmapTest(Calls):
    PAGES = by_place(PAGES + ["page 3 7 rw 1 1", "page 4 9 r 3 7", "page 2 12 rw 1 2"])

    def test_wrong_registers(self):
        for block in (0, 3, 33 - 1, 32, 32 * 16 + 1, 32 + 2, 64 + 4, 32 * 8 + 16, 31, 5, EVER, 32 * 15 + 2, 32 * 16):
            self.result(11, 1, block, 7, 0)
        for letters in (0, 8, 9, EVER):
            self.result(11, 1, 33, letters, 0)
        for own in (2, 3, EVER):
            self.result(11, 1, 33, 7, own)

    def test_what_is_beneath(self):
        kernel, events = told_by(stage(pages=self.PAGES), 1, 1, 33, 2, 0)
        self.same(events, (("pages", ((3, 7),)), ("result", 1, 0)))
        self.assertIn((3, 7, 2, "r"), kernel.spaces.pages)
        kernel, events = told_by(stage(pages=self.PAGES), 1, 1, 33, 7, 0)
        self.same(events, (("pages", ((3, 7), (4, 9))), ("result", 1, 0)))
        self.assertIn((1, 1, 2, "rw"), kernel.spaces.pages)
        # The sixteen pages, and its own ones too.
        kernel, events = told_by(stage(pages=self.PAGES), 1, 1, 16, 3, 1)
        self.same(events, (("pages", ((1, 0), (1, 1), (1, 2), (2, 12), (3, 7), (4, 9))), ("result", 1, 0)))
        self.assertIn((1, 0, 0, "x"), kernel.spaces.pages)

    def test_each_letter_number(self):
        for number, letters in ((1, "w"), (2, "r"), (3, None), (4, "rw"), (5, "w"), (6, "r"), (7, None)):
            kernel, _ = told_by(stage(pages=self.PAGES), 1, 1, 33, number, 0)
            found = [page[3] for page in kernel.spaces.pages if page[:2] == (3, 7)]
            self.assertEqual(found, [letters] if letters else [])

    def test_nothing_beneath(self):
        for block in (33, 32 * 15 + 1, 32 * 8 + 8, 32 * 4 + 4, 32 * 14 + 2):
            self.result(0, 1, block, 7, 0)
        # What there is not is not taken, nor own pages of the root.
        self.result(0, 1, 33, 4, 1)
        self.result(0, 1, 32 * 15 + 1, 7, 1, thread=0)

    def test_the_caller_that_takes_its_own_code(self):
        kernel, events = told_by(stage(), 1, 1, 1, 7, 1)
        self.same(events, (("pages", ((1, 0),)), ("result", 1, 0)))
        self.same(kernel.run(1)[0][1:], ("fault", 1, ("page", "x", 2)))


class RightsTest(Calls):
    def test_wrong_registers(self):
        for how in (5, 6, 255, EVER):
            self.result(11, 2, how, 0, 9, 1)
        for how in range(5):
            for place in (16, 17, 255, EVER):
                self.result(11, 2, how, place, 9, 1)
        for how in range(3):
            for place in (16, 255, EVER):
                self.result(11, 2, how, 0, place, 1)
        for letters in (0, 8, EVER):
            self.result(11, 2, 0, 0, 9, letters)
        for badge in (1000, EVER):
            self.result(11, 2, 1, 0, 9, badge)

    def test_no_right_there(self):
        for how in range(5):
            self.result(8, 2, how, 9, 2, 1)
            self.result(8, 2, how, 15, 15, 7)

    def test_registers_that_are_not_looked_at(self):
        kernel, events = told_by(stage(), 1, 2, 2, 0, 9, EVER, EVER)
        self.same(events, (("rights", (7,)), ("result", 1, 0)))
        for how in (3, 4):
            kernel, events = told_by(stage(), 1, 2, how, 0, EVER, EVER)
            self.same(events[-1], ("result", 1, 0))

    def test_copy(self):
        for number, letters in ((1, "s"), (3, "sg")):
            kernel, events = told_by(stage(), 1, 2, 0, 3, 9, number)
            self.same(events, (("rights", (43,)), ("result", 1, 0)))
            self.same(kernel.rights.rows[-1], (43, 1, 9, "g3", letters, 103, 10))
        for number in (2, 4, 5, 6, 7):
            self.result(13, 2, 0, 3, 9, number)
        for number in (1, 3):
            self.result(13, 2, 0, 3, 2, number)
            self.result(13, 2, 0, 3, 3, number)
        for number, letters in ((4, "c"), (6, "cg")):
            kernel, events = told_by(stage(), 0, 2, 0, 10, 12, number)
            self.same(kernel.rights.rows[-1], (43, 0, 12, "t1", letters, None, 40))
        for number in (1, 2, 3, 5, 7):
            self.result(13, 2, 0, 10, 12, number, thread=0)
        # Of letters that the right does not have.
        self.result(13, 2, 0, 10, 12, 6)

    def test_mint(self):
        for badge in (0, 999):
            kernel, events = told_by(stage(), 0, 2, 1, 3, 12, badge)
            self.same(events, (("rights", (43,)), ("result", 0, 0)))
            self.same(kernel.rights.rows[-1], (43, 0, 12, "g3", "sg", badge, 3))
        # It has a badge; it is one of a task; its place is held.
        self.result(13, 2, 1, 3, 9, 5)
        self.result(13, 2, 1, 10, 12, 5, thread=0)
        self.result(13, 2, 1, 3, 4, 5, thread=0)

    def test_move(self):
        kernel, events = told_by(stage(), 1, 2, 2, 3, 9)
        self.same(events, (("rights", (10,)), ("result", 1, 0)))
        self.same([row[2] for row in kernel.rights.rows if row[0] == 10], [9])
        self.result(13, 2, 2, 3, 4)
        self.result(13, 2, 2, 3, 3)

    def test_drop_and_take_back(self):
        kernel, _ = told_by(stage(), 1, 2, 0, 3, 8, 3)
        kernel, _ = told_by(kernel, 1, 2, 0, 8, 9, 1)
        dropped, events = told_by(kernel, 1, 2, 3, 8)
        self.same(events, (("rights", (43,)), ("result", 1, 0)))
        self.same(dropped.rights.rows[-1], (44, 1, 9, "g3", "s", 103, 10))
        back, events = told_by(kernel, 1, 2, 4, 3)
        self.same(events, (("rights", (43, 44)), ("result", 1, 0)))
        self.assertEqual((len(back.rights.rows), back.rights.next), (len(RIGHTS), 45))
        _, events = told_by(back, 1, 2, 4, 3)
        self.same(events, (("result", 1, 0),))

    def test_no_number_is_left(self):
        rights = RIGHTS + ["right 9998 0 12 g0 s - -"]
        for how in (0, 1):
            self.result(13, 2, how, 0, 14, 1, thread=0, kernel=stage(rights=rights))
        _, events = told_by(stage(rights=rights), 0, 2, 2, 0, 14)
        self.same(events[-1], ("result", 0, 0))


class ControlTest(Calls):
    def test_wrong_registers(self):
        for how in (3, 4, 255, EVER):
            self.result(11, 3, how, 255, 1, 0, 0)
        for how in range(3):
            for place in (16, 17, 254, 256, EVER):
                self.result(11, 3, how, place, 1, 0, 0)
        for thread in (8, 255, EVER):
            for how in range(2):
                self.result(11, 3, how, 255, thread, 0, 0)
        for place in (256, 257, EVER - 1):
            self.result(11, 3, 0, 255, 1, place, 0)
        for how in (3, 255, EVER):
            self.result(11, 3, 0, 255, 1, 0, how)
        for door in (16, 17, 254, 256, EVER):
            self.result(11, 3, 1, 255, 1, door, 0)
            self.result(11, 3, 1, 255, 1, 0, door)
        # Of its own task there is no kill.
        self.result(11, 3, 2, 255)

    def test_no_right_to_a_task(self):
        for how in range(3):
            for place in (9, 15, 0, 6):
                self.result(8, 3, how, place, 1, 0, 0)

    def test_no_such_thread(self):
        for how in range(2):
            # Of another task; none at all; by a right to the task of another one.
            for other in (0, 2, 3, 4, 6, 7):
                self.result(13, 3, how, 255, other, 0, 0)
            for other in (0, 1, 2, 4, 5, 6, 7):
                self.result(13, 3, how, 10, other, 0, 0)
        self.result(8, 3, 0, 9, 7, 0, 0)

    def test_registers_that_a_kill_does_not_look_at(self):
        kernel, events = told_by(stage(), 1, 3, 2, 10, EVER, EVER, EVER)
        self.same(events[0], ("killed", (3,)))

    def test_doors(self):
        kernel = self.result(0, 3, 1, 255, 5, 3, 255)
        self.same((kernel.doors(5), kernel.doors(1)), ((3, None), (None, None)))
        kernel = self.result(0, 3, 1, 255, 5, 255, 15, kernel=kernel)
        self.same(kernel.doors(5), (None, 15))
        kernel = self.result(0, 3, 1, 10, 3, 0, 0, kernel=kernel)
        self.same((kernel.doors(3), kernel.doors(5)), ((0, 0), (None, 15)))

    def test_set_a_thread_that_rests(self):
        for how, state in ((0, "rests"), (1, "ready"), (2, "rests")):
            for place, stands in ((77, 77), (255, 255), (EVER, 0)):
                kernel = self.result(0, 3, 0, 10, 3, place, how)
                self.assertEqual((kernel.state(3), kernel.cell(3).place), (state, stands))
                self.assertEqual(kernel.turns.row, (1, 3) if how == 1 else (1,))

    def test_set_a_thread_that_is_ready(self):
        for how, row in ((0, (1,)), (1, (1, 3)), (2, (1, 3))):
            kernel = self.result(0, 3, 0, 10, 3, 77, how, kernel=edited(stage(), row=(3,)))
            self.assertEqual((kernel.turns.row, kernel.cell(3).place), (row, 77))

    def test_set_itself(self):
        for how, row in ((0, ()), (1, (1,)), (2, (1,))):
            for place, stands in ((77, 77), (EVER, 4)):
                kernel = self.result(0, 3, 0, 255, 1, place, how)
                self.assertEqual((kernel.turns.row, kernel.state(1), kernel.cell(1).place), (row, "ready" if row else "rests", stands))

    def test_set_a_thread_that_waits(self):
        """In sending, in receiving, for a reply of one that it calls, or that it waits for."""
        sends, _ = told_by(stage(), 3, 0, 1, 254, limits(None, None), *W)
        receives = receiving(stage(), 3, limit=200)
        calls, _ = told_by(receiving(stage(), 1), 3, 0, 1, 253, limits(None, None), *W)
        waits, _ = told_by(told_by(stage(), 3, 0, 1, 253, limits(None, None), *W)[0], 1, 0, 255, 1, 0)
        for kernel, number in ((sends, 5), (receives, 6), (calls, 6), (waits, 6)):
            for how, state in ((0, "rests"), (1, "ready")):
                later, events = told_by(kernel, 1, 3, 0, 10, 3, 77, how)
                self.same(events, (("result", 3, number), ("result", 1, 0)))
                self.assertEqual((later.state(3), later.cell(3).place, later.cell(3).registers[0]), (state, 77, number))
                self.assertEqual((later.turns.row, later.turns.waits, later.turns.calls), ((1, 3) if how else (1,), (), ()))
                self.assertEqual(later.waits.owes(1), None)
            before = kernel.state(3), kernel.waits.state(3), kernel.turns.waits, kernel.turns.calls
            later, events = told_by(kernel, 1, 3, 0, 10, 3, 77, 2)
            self.same(events, (("result", 1, 0),))
            self.assertEqual((later.state(3), later.waits.state(3), later.turns.waits, later.turns.calls), before)
            self.assertEqual((later.cell(3).place, later.cell(3).registers[0]), (77, kernel.cell(3).registers[0]))

    def test_set_a_thread_that_faults(self):
        waiting, _ = act(stage(doors=["doors 3 - 1"]), 3, TRAP)
        called, _ = act(receiving(stage(doors=["doors 3 - 1"]), 1), 3, TRAP)
        for kernel in (waiting, called):
            for how, state in ((0, "rests"), (1, "ready")):
                later, events = told_by(kernel, 1, 3, 0, 10, 3, 77, how)
                self.same(events, (("result", 1, 0),))
                self.assertEqual((later.state(3), later.cell(3).place, later.cell(3).registers), (state, 77, (0,) * 8))
                self.assertEqual((later.turns.row, later.turns.waits, later.turns.calls), ((1, 3) if how else (1,), (), ()))
                self.assertEqual(later.waits.owes(1), None)

    def test_an_answer_goes_by_the_place_that_was_set(self):
        for fault, place in ((TRAP, 1), (8, 1)):
            for words, goes in (((0, 0, 0, 0), 77 if fault == TRAP else 78), ((1, 0, 0, 0), 76 if fault == TRAP else 77), ((2, 9, 0, 0), 9)):
                kernel, _ = act(receiving(stage(doors=["doors 3 - 1"]), 1), 3, fault)
                kernel, events = told_by(kernel, 1, 3, 0, 10, 3, 77, 2)
                self.assertEqual((kernel.state(3), kernel.cell(3).place), ("faults", 77))
                kernel, _ = told_by(kernel, 1, 0, 254, 255, 0, *words)
                self.assertEqual((kernel.state(3), kernel.cell(3).place), ("ready", goes))

    def test_a_wait_that_is_over_is_over(self):
        """A sender that was set sends no more, nor does a limit of it end."""
        kernel, _ = told_by(stage(), 3, 0, 1, 255, limits(9, 0), *W)
        kernel, _ = told_by(kernel, 1, 3, 0, 10, 3, EVER, 0)
        self.assertEqual({event[1] for event in edited(kernel, row=()).run(20)}, {"idle"})
        _, events = told_by(kernel, 1, 0, 255, 254, 0)
        self.same(events, (("result", 1, 2),))


class GiveWayTest(Calls):
    def test_it_goes_to_the_end_with_a_whole_slice(self):
        kernel = edited(stage(), {0: (14, ()), 1: (14, ()), 2: (9, ())}, (0, 1, 2))
        kernel.run(1)
        self.assertEqual((kernel.turns.threads[0][3], kernel.turns.row), (19, (0, 1, 2)))
        kernel, events = told_by(kernel, 0, 4, 5, 6, 7)
        self.same(events, (("result", 0, 0),))
        self.same(kernel.cell(0).registers[:3], (0, 6, 7))
        self.assertEqual((kernel.turns.threads[0][3], kernel.turns.row), (20, (1, 2, 0)))

    def test_its_payer_has_a_whole_slice(self):
        kernel, _ = told_by(receiving(stage(), 2), 1, 0, 2, 253, limits(0, None), *W)
        self.assertEqual(kernel.turns.threads[1][3], 19)
        kernel, _ = told_by(edited(kernel, row=(2, 0)), 2, 4)
        self.assertEqual((kernel.turns.threads[1][3], kernel.turns.row), (20, (0, 2)))

    def test_on_a_slice_that_ends(self):
        kernel, _ = told_by(edited(stage(head=HEAD.replace("0 4 20", "0 4 1")), row=(0, 1)), 0, 4)
        self.assertEqual((kernel.turns.row, kernel.turns.threads[0][3]), ((1, 0), 1))


if __name__ == "__main__":
    unittest.main()
