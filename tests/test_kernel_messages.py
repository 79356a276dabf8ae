"""K 0: all halves, their limits and results, the registers behind meetings, borders, passing rights."""

import unittest

from helpers import Checks
from stage import EVER, HEAD, act, edited, limits, receiving, sixteen, stage, told_by
from clankernel.images import image

W = (11, 12, 13, 14)
X = (21, 22, 23, 65535)


class FormsTest(unittest.TestCase, Checks):
    """What registers tell none of what is told for them: 11; gates that are not its own: 8."""

    def result(self, number, *registers, thread=1, kernel=None):
        later, events = told_by(kernel or stage(), thread, 0, *registers)
        self.same(events, (("result", thread, number),))
        self.same(later.cell(thread).registers, (number,) + registers[1:] + (0,) * (8 - len(registers)))
        self.assertEqual((later.state(thread), later.turns.row), ("ready", (thread,)))

    def test_calls_there_are_not(self):
        for number, place in ((5, 5), (15, 6)):
            kernel, events = act(stage(), 1, place, 0, 255)
            self.same(events, (("row", 1, place), ("call", 1, number), ("result", 1, 11)))

    def test_to(self):
        for to in (16, 17, 100, 252, 256, 300, 65535):
            for source in (253, 254, 255, 1):
                self.result(11, to, source)

    def test_from(self):
        for source in (256, 257, 65535):
            for to in (0, 253, 254, 255):
                self.result(11, to, source)
        for to in (254, 255):
            self.result(11, to, 253)

    def test_items(self):
        for address in (256, 257, 65535):
            self.result(11, 255, 255, 0, *W, address)
        # 64 to 79 is no page of task 1; 31 to 35 is cut; page 0 is code, of which no row is items.
        for address in (64, 5):
            self.result(11, 255, 255, 0, *W, address)
        kernel = stage(words={2: [1, 2, 17] + [0] * 9 + [5, 1, 1, 0], 6: sixteen(1)})
        self.result(11, 255, 255, 0, *W, 16, kernel=kernel)
        self.result(11, 255, 255, 0, *W, 28, kernel=kernel)
        self.result(0, 255, 255, 0, *W, 19, kernel=kernel)

    def test_items_up_to_the_end_of_what_can_be_read(self):
        # Task 1 has 16 to 47. A row and its ending 0 at the very end; a row whose 0 is wanting.
        for at, number in ((43, 0), (44, 11)):
            words = [0] * 32
            words[at - 16:at - 12] = [5, 1, 1, 0]
            kernel = stage(words={2: words[:16], 6: words[16:]})
            self.result(number, 255, 255, 0, *W, at, kernel=kernel)
        # At 255 a single 0, of the root; beyond it nothing.
        self.result(0, 255, 255, 0, *W, 255, thread=0)
        self.result(11, 255, 255, 0, *W, 255, thread=0, kernel=stage(words={15: sixteen()[:15] + [7]}))

    def test_items_lie_in_pages_with_r(self):
        pages = ["page 1 0 rx 0 0", "page 1 1 w 0 2", "page 1 2 x 0 6", "page 1 3 r 0 6"]
        for address, number in ((16, 11), (32, 11), (48, 0)):
            self.result(number, 255, 255, 0, *W, address, kernel=stage(pages=pages))

    def test_seven_rows_at_most(self):
        rows = [1, 0, 1, 0, 2, 1, 1, 0, 3, 1, 1, 0, 4, 0, 1, 0, 5, 0, 1, 0, 6, 1, 0, 0, 7, 0, 0, 0]
        for more, number in (([0], 0), ([7, 0, 0, 0, 0], 11), ([1], 11)):
            words = (rows + more + [0] * 32)[:32]
            self.result(number, 255, 255, 0, *W, 16, kernel=stage(words={2: words[:16], 6: words[16:]}))

    def test_gates_that_are_not_its_own(self):
        for source in (0, 2, 3, 6, 7, 11, 12, 200, 252):
            for to in (0, 253, 254, 255):
                self.result(8, to, source)
        # Ahead of it come wrong items, and other registers.
        self.result(11, 0, 0, 0, *W, 64)
        self.result(11, 16, 0)

    def test_no_half_at_all(self):
        for told in (0, EVER, 7):
            self.result(0, 255, 255, told)

    def test_to_what_there_is_not(self):
        self.result(8, 7, 255)
        self.result(8, 15, 253)
        self.result(8, 15, 255)
        # A right to a task.
        self.result(8, 10, 255)
        self.result(8, 253, 255)
        self.result(8, 253, 253, EVER)
        self.result(8, 254, 255)
        self.result(8, 254, 254, EVER)

    def test_barred(self):
        head = HEAD.replace("\nborder 2 6", "")
        for source in (253, 254, 255, 1):
            self.result(9, 4, source, EVER, kernel=stage(head=head))
        # Task 3 reaches 4 by its chief 1, whose border has a gate; that of 2 comes later.
        later, events = told_by(stage(head=head), 3, 0, 4, 255, EVER)
        self.same((events, later.waits.state(3)[:2]), ((), ("sends", 5)))


class FirstHalfTest(unittest.TestCase, Checks):
    def test_sent_to_one_that_receives(self):
        for source in (254, 2):
            for first in (0, 9, None):
                kernel = receiving(stage(), 2, source)
                kernel, events = told_by(kernel, 1, 0, 2, 255, limits(first, 7), *W)
                self.same(events, (("met", "sent", 1, 2, 2, 102, W), ("result", 1, 0)))
                self.same(kernel.cell(2).registers, (0, 102, 2, *W, 0))
                self.same(kernel.cell(1).registers, (0, 255, limits(first, 7), *W, 0))
                # It comes to the end of the row, the sender stays.
                self.assertEqual((kernel.turns.row, kernel.turns.waits, kernel.turns.calls), ((1, 2), (), ()))
                self.assertEqual(kernel.waits.owes(2), None)

    def test_badges(self):
        kernel, _ = told_by(receiving(stage(), 2), 0, 0, 2, 255, 0, *X)
        self.same(kernel.cell(2).registers, (0, 65535, 2, *X, 0))
        kernel, _ = told_by(receiving(stage(), 1), 3, 0, 1, 255, 0, *X)
        self.same(kernel.cell(1).registers[1:3], (301, 1))

    def test_late_at_once(self):
        for kernel in (stage(), receiving(stage(), 1, 5)):
            later, events = told_by(kernel, 3, 0, 1, 254, limits(0, None), *W)
            self.same(events, (("result", 3, 1),))
            self.same(later.cell(3).registers[:3], (1, 254, 255))

    def test_late_at_its_tick(self):
        for limit in (1, 2, 254):
            kernel, events = told_by(stage(), 1, 0, 2, 253, limits(limit, None), *W)
            self.same(events, ())
            self.assertEqual((kernel.state(1), kernel.turns.row, kernel.turns.waits), ("sends", (), ((1, 2),)))
            self.same(kernel.waits.state(1), ("sends", 2, 102, W, 1, 1 + limit, "reply", None))
            if limit > 1:
                self.same(kernel.run(limit - 1), tuple((tick, "idle") for tick in range(2, limit + 1)))
            self.same(kernel.run(1), ((1 + limit, "result", 1, 1), (1 + limit, "idle")))
            self.assertEqual((kernel.state(1), kernel.turns.row, kernel.turns.waits, kernel.cell(1).registers[0]), ("ready", (1,), (), 1))

    def test_for_ever(self):
        kernel, _ = told_by(stage(), 1, 0, 2, 255, limits(None, 3), *W)
        self.same(kernel.waits.state(1), ("sends", 2, 102, W, 1, None, None, 0))
        self.assertEqual(len(kernel.run(399)), 399)

    def test_over_its_own_gate(self):
        kernel, events = told_by(stage(), 1, 0, 1, 255, limits(4, 0), *W)
        self.assertEqual((events, kernel.state(1), kernel.turns.row, kernel.turns.waits), ((), "sends", (), ()))
        self.same(kernel.run(4)[3:], ((5, "result", 1, 1), (5, "idle")))
        _, events = told_by(stage(), 1, 0, 1, 255, 0)
        self.same(events, (("result", 1, 1),))

    def test_nobody_and_a_second_half(self):
        kernel, events = told_by(stage(), 1, 0, 255, 1, limits(0, 6), *W)
        self.same((events, kernel.waits.state(1)), ((), ("receives", 1, 1, 7)))
        self.assertEqual((kernel.turns.row, kernel.turns.waits, kernel.state(1)), ((), (), "receives"))
        self.same(kernel.cell(1).registers, (255, 1, 6, *W, 0))
        self.same(kernel.run(6)[5:], ((7, "result", 1, 2), (7, "idle")))
        kernel, events = told_by(stage(), 1, 0, 255, 254, limits(None, 0))
        self.same(events, (("result", 1, 2),))
        kernel, events = told_by(stage(), 5, 0, 255, 254, limits(None, None))
        self.same((events, kernel.waits.state(5)), ((), ("receives", "any", 1, None)))


class SecondHalfTest(unittest.TestCase, Checks):
    def test_a_call_and_its_reply(self):
        kernel = receiving(stage(), 2)
        kernel, events = told_by(kernel, 1, 0, 2, 253, limits(0, 9), *W)
        self.same(events, (("met", "called", 1, 2, 2, 102, W),))
        self.same(kernel.cell(1).registers, (2, 253, 9, *W, 0))
        self.same((kernel.waits.state(1), kernel.waits.owes(2)), (("receives", "reply", 2, 11), 1))
        kernel, events = told_by(kernel, 2, 0, 254, 255, 0, *X)
        self.same(events, (("met", "replied", 2, 1, None, None, X), ("result", 2, 0)))
        self.same(kernel.cell(1).registers, (0, 65535, 15, *X, 0))
        self.assertEqual((kernel.waits.owes(2), kernel.turns.row, kernel.turns.calls), (None, (1, 2), ()))

    def test_a_call_with_no_time_for_its_reply(self):
        kernel, events = told_by(receiving(stage(), 2), 1, 0, 2, 253, limits(0, 0), *W)
        self.same(events, (("met", "called", 1, 2, 2, 102, W), ("result", 1, 2)))
        self.assertEqual((kernel.waits.owes(2), kernel.turns.row, kernel.turns.calls), (None, (1, 2), ()))
        _, events = told_by(kernel, 2, 0, 254, 255, 0, *X)
        self.same(events, (("result", 2, 8),))

    def test_a_reply_that_comes_late(self):
        kernel, _ = told_by(receiving(stage(), 2), 1, 0, 2, 253, limits(0, 3), *W)
        kernel = edited(kernel, row=())
        # Called, and its caller waits for it no more: it is ready, if it was; here it rests.
        self.same(kernel.run(3)[2:], ((5, "result", 1, 2), (5, "idle")))
        self.assertEqual((kernel.turns.row, kernel.turns.calls, kernel.waits.owes(2)), ((1,), (), None))

    def test_a_sender_that_waited_goes_on_to_receive(self):
        kernel, _ = told_by(stage(), 1, 0, 2, 254, limits(None, 3), *W)
        kernel, events = told_by(kernel, 2, 0, 255, 2, limits(0, 0))
        self.same(events, (("met", "sent", 1, 2, 2, 102, W),))
        self.same(kernel.waits.state(1), ("receives", "any", 2, 5))
        self.assertEqual((kernel.turns.row, kernel.turns.waits, kernel.state(1)), ((2,), (), "receives"))
        self.same(kernel.cell(1).registers[0], 2)
        self.same(edited(kernel, row=()).run(3)[2:], ((5, "result", 1, 2), (5, "idle")))

    def test_a_sender_that_waited_and_is_done(self):
        kernel, _ = told_by(stage(), 1, 0, 2, 255, limits(None, 3), *W)
        kernel, events = told_by(kernel, 2, 0, 255, 254, limits(0, 0))
        self.same(events, (("met", "sent", 1, 2, 2, 102, W), ("result", 1, 0)))
        self.same((kernel.turns.row, kernel.cell(1).registers[0]), ((2, 1), 0))

    def test_a_chain_of_meetings(self):
        """2 replies to 0, then receives from 1, which goes on to receive from 3, which goes on to call."""
        kernel, _ = told_by(receiving(stage(), 2), 0, 0, 2, 253, limits(0, None), *W)
        kernel = edited(kernel, row=())
        kernel, _ = told_by(kernel, 1, 0, 2, 1, limits(None, 0), 1, 1, 1, 1)
        kernel, _ = told_by(kernel, 3, 0, 1, 253, limits(None, None), 3, 3, 3, 3)
        kernel, events = told_by(kernel, 2, 0, 254, 254, limits(0, 0), *X)
        self.same(events, (("met", "replied", 2, 0, None, None, X), ("met", "sent", 1, 2, 2, 102, (1, 1, 1, 1)), ("met", "called", 3, 1, 1, 301, (3, 3, 3, 3))))
        self.same(kernel.cell(0).registers, (0, 65535, 15, *X, 0))
        self.same(kernel.cell(2).registers, (0, 102, 2, 1, 1, 1, 1, 0))
        self.same(kernel.cell(1).registers, (0, 301, 1, 3, 3, 3, 3, 0))
        # 0 stands where 2 stood, 2 behind it, as it is ready; 1 comes then; 3 waits for 1.
        self.assertEqual((kernel.turns.row, kernel.turns.calls, kernel.turns.waits), ((0, 2, 1), (), ((3, 1),)))
        self.assertEqual(kernel.waits.owes(1), 3)

    def test_of_several_senders_the_greatest_eldest_least_is_met(self):
        kernel = stage(head=HEAD.replace("thread 4 4 0 4", "thread 4 4 0 5"))
        for thread in (1, 0, 4):
            kernel, events = told_by(kernel, thread, 0, 2, 255, limits(None, 0), thread, 0, 0, 0)
            self.same(events, ())
        for sender in (4, 1, 0):
            kernel, events = told_by(edited(kernel, row=()), 2, 0, 255, 254, limits(0, 0))
            self.assertEqual(events[0][:3], ("met", "sent", sender))
        _, events = told_by(kernel, 2, 0, 255, 254, limits(0, 0))
        self.same(events, (("result", 2, 2),))

    def test_lost(self):
        kernel, _ = told_by(receiving(stage(), 2), 1, 0, 2, 253, limits(0, None), *W)
        kernel = receiving(kernel, 2)
        self.assertEqual(kernel.turns.calls, ((1, 2),))
        kernel, events = told_by(kernel, 0, 0, 2, 253, limits(0, None), *X)
        self.same(events, (("met", "called", 0, 2, 2, None, X), ("result", 1, 7)))
        # Who called ahead waits for the called one, the new one calls it; then the lost one is ready.
        self.assertEqual((kernel.turns.row, kernel.turns.calls, kernel.turns.waits, kernel.waits.owes(2)), ((2, 1), ((0, 2),), (), 0))
        self.same(kernel.cell(1).registers, (7, 253, 255, *W, 0))

    def test_lost_by_one_that_waited(self):
        kernel, _ = told_by(receiving(stage(), 2), 1, 0, 2, 253, limits(0, None), *W)
        kernel, _ = told_by(kernel, 0, 0, 2, 253, limits(None, None), *X)
        kernel, events = told_by(kernel, 2, 0, 255, 254, limits(0, None))
        self.same(events, (("met", "called", 0, 2, 2, None, X), ("result", 1, 7)))
        self.assertEqual((kernel.turns.row, kernel.turns.calls, kernel.turns.waits), ((2, 1), (), ((0, 2),)))

    def test_what_is_sent_does_not_lose_a_reply(self):
        kernel, _ = told_by(receiving(stage(), 2), 1, 0, 2, 253, limits(0, None), *W)
        kernel = receiving(kernel, 2)
        kernel, events = told_by(kernel, 0, 0, 2, 255, limits(0, None), *X)
        self.same(events, (("met", "sent", 0, 2, 2, None, X), ("result", 0, 0)))
        self.assertEqual((kernel.waits.owes(2), kernel.turns.calls, kernel.turns.row), (1, ((1, 2),), (0, 2)))
        kernel, events = told_by(kernel, 2, 0, 254, 255, 0)
        self.same(events[0][:4], ("met", "replied", 2, 1))

    def test_a_call_of_one_that_is_called(self):
        """1 calls 2, 2 calls 4: who is called stands where its caller stood, and the first one pays."""
        kernel = receiving(receiving(stage(), 2), 4)
        kernel, _ = told_by(edited(kernel, row=(0, 1)), 1, 0, 2, 253, limits(0, None), *W)
        kernel, events = told_by(kernel, 2, 0, 4, 253, limits(0, None), *X)
        self.same(events, (("met", "called", 2, 4, 4, None, X),))
        self.assertEqual((kernel.turns.row, kernel.turns.calls), ((4, 0), ((1, 2), (2, 4))))
        left = [thread[3] for thread in kernel.turns.threads]
        kernel = edited(kernel, {4: (14, ())})
        kernel.run(1)
        self.assertEqual([had - thread[3] for had, thread in zip(left, kernel.turns.threads)], [0, 1, 0, 0, 0, 0, 0])
        kernel, _ = told_by(kernel, 4, 0, 254, 254, limits(0, None))
        self.assertEqual((kernel.turns.row, kernel.turns.calls), ((2, 0), ((1, 2),)))
        kernel, _ = told_by(kernel, 2, 0, 254, 255, 0)
        self.assertEqual((kernel.turns.row, kernel.turns.calls), ((1, 0, 2), ()))

    def test_a_called_one_that_waits_comes_back_at_the_end(self):
        kernel = receiving(stage(), 2)
        kernel, _ = told_by(edited(kernel, row=(1, 3)), 1, 0, 2, 253, limits(0, None), *W)
        kernel, _ = told_by(kernel, 2, 0, 4, 253, limits(None, None), *X)
        self.assertEqual((kernel.turns.row, kernel.turns.calls, kernel.turns.waits), ((3,), ((1, 2),), ((2, 4),)))
        kernel, _ = told_by(kernel, 4, 0, 255, 254, limits(0, None))
        # Met by the deed of 4, it waits for the reply, it does not call.
        self.assertEqual((kernel.turns.row, kernel.turns.calls, kernel.turns.waits), ((4, 3), ((1, 2),), ((2, 4),)))
        kernel, _ = told_by(kernel, 4, 0, 254, 255, 0)
        self.assertEqual((kernel.turns.row, kernel.turns.calls, kernel.turns.waits), ((4, 3, 2), ((1, 2),), ()))

    def test_a_slice_that_ends_at_the_tick_of_a_call(self):
        head = HEAD.replace("thread 1 1 0 4 20", "thread 1 1 0 4 1")
        kernel = edited(receiving(stage(head=head), 2), row=(1, 0, 3))
        kernel, events = told_by(kernel, 1, 0, 2, 253, limits(0, None), *W)
        self.assertEqual(events[0][1], "called")
        # Who called came to the end of the row first.
        self.assertEqual((kernel.turns.row, kernel.turns.threads[1]), ((0, 3, 2), (1, 4, 1, 1)))
        # A reply likewise: the caller, which pays, stands last, and the replier behind it.
        kernel, _ = told_by(edited(kernel, row=(2, 0, 3)), 2, 0, 254, 255, 0)
        self.assertEqual(kernel.turns.row, (0, 3, 1, 2))

    def test_a_reply_by_one_that_rests_behind_it(self):
        kernel = edited(receiving(stage(), 2), row=(0, 1))
        kernel, _ = told_by(kernel, 1, 0, 2, 253, limits(0, None), *W)
        kernel, _ = told_by(kernel, 2, 0, 254, 254, limits(0, None))
        self.assertEqual((kernel.turns.row, kernel.turns.calls, kernel.state(2)), ((1, 0), (), "receives"))

    def test_a_reply_whose_second_half_is_late(self):
        kernel = receiving(stage(), 2)
        kernel, _ = told_by(kernel, 1, 0, 2, 253, limits(0, None), *W)
        kernel, events = told_by(kernel, 2, 0, 254, 254, limits(0, 0), *X)
        self.same(events, (("met", "replied", 2, 1, None, None, X), ("result", 2, 2)))
        self.assertEqual(kernel.turns.row, (1, 2))


class BordersTest(unittest.TestCase, Checks):
    def test_over_one_border(self):
        kernel = receiving(stage(), 2)
        kernel, events = told_by(kernel, 4, 0, 0, 253, limits(0, None), *W)
        self.same(events, (("met", "called", 4, 2, 6, None, W), ("passing", 2, 0, None, 4)))
        self.same(kernel.cell(2).registers, (0, 65535, 6, *W, 32768 + 4))
        self.same(kernel.passing(2), (0, None, 4))

    def test_straight_none_is_turned(self):
        for sender, gate, owner in ((1, 0, 0), (1, 2, 2), (1, 3, 3), (0, 1, 1), (0, 6, 2), (2, 5, 1), (3, 1, 1), (3, 5, 1), (5, 1, 1)):
            kernel = receiving(stage(), owner)
            kernel, events = told_by(kernel, sender, 0, gate, 255, 0, *W)
            self.assertEqual([event[0] for event in events], ["met", "result"])
            self.assertEqual((kernel.cell(owner).registers[7], kernel.passing(owner)), (0, None))

    def test_over_two_borders(self):
        """3 calls 4: its chief 1 passes it on to 2, this one to 4; each reply comes to who called."""
        kernel = receiving(receiving(receiving(stage(), 1), 2), 4)
        kernel, events = told_by(kernel, 3, 0, 4, 253, limits(0, None), *W)
        self.same(events, (("met", "called", 3, 1, 5, 304, W), ("passing", 1, 4, 304, 3)))
        self.same(kernel.cell(1).registers, (0, 304, 5, *W, 32768 + 64 + 3))
        kernel, events = told_by(kernel, 1, 0, 253, 253, limits(0, None), *X)
        # The badge and the origin are those of the passing right, which is gone then.
        self.same(events, (("met", "called", 1, 2, 6, 304, X), ("passing", 2, 4, 304, 3)))
        self.assertEqual((kernel.passing(1), kernel.passing(2)), (None, (4, 304, 3)))
        self.same(kernel.cell(2).registers, (0, 304, 6, *X, 32768 + 64 + 3))
        kernel, events = told_by(kernel, 2, 0, 253, 253, limits(0, None), *W)
        self.same(events, (("met", "called", 2, 4, 4, 304, W),))
        self.same((kernel.cell(4).registers, kernel.passing(2), kernel.passing(4)), ((0, 304, 4, *W, 0), None, None))
        self.assertEqual((kernel.turns.row, kernel.turns.calls), ((4,), ((1, 2), (2, 4), (3, 1))))
        for replier, caller in ((4, 2), (2, 1), (1, 3)):
            kernel, events = told_by(kernel, replier, 0, 254, 255, 0, *X)
            self.same(events[0], ("met", "replied", replier, caller, None, None, X))
            self.same(kernel.cell(caller).registers, (0, 65535, 15, *X, 0))

    def test_one_that_waits_at_a_border(self):
        kernel, events = told_by(stage(), 3, 0, 2, 255, limits(9, 0), *W)
        self.same((events, kernel.waits.state(3)[:3], kernel.turns.waits), ((), ("sends", 5, 302), ((3, 1),)))
        self.assertIn("\nmeant 3 2 3\n", image(kernel))
        later, events = told_by(kernel, 1, 0, 255, 254, 0)
        self.same(events, (("met", "sent", 3, 1, 5, 302, W), ("passing", 1, 2, 302, 3), ("result", 3, 0)))
        self.assertNotIn("meant", image(later))
        self.same(kernel.run(9)[8:], ((10, "result", 3, 1), (10, "idle")))
        self.assertNotIn("meant", image(kernel))

    def test_a_passing_right_stays_until_it_is_used_or_another_one_comes(self):
        kernel = receiving(stage(), 2)
        kernel, _ = told_by(kernel, 4, 0, 0, 255, 0, *W)
        # Other messages, also those of its own gate, leave it.
        kernel = receiving(kernel, 2)
        kernel, _ = told_by(kernel, 0, 0, 2, 255, 0, *W)
        self.same((kernel.passing(2), kernel.cell(2).registers[7]), ((0, None, 4), 0))
        kernel = receiving(kernel, 2)
        kernel, events = told_by(kernel, 4, 0, 1, 255, 0, *W)
        self.same(events[1:], (("passing", 2, 1, None, 4), ("result", 4, 0)))
        # A result that comes ahead of the message leaves it, a late one does not.
        for registers in ((253, 0, 0), (253, 300, 0), (253, 255, 0, *W, 64), (253, 257)):
            later, events = told_by(kernel, 2, 0, *registers)
            self.same((events[0][0], later.passing(2)), ("result", (1, None, 4)))
        later, events = told_by(kernel, 2, 0, 253, 255, 0, *X)
        self.same((events, later.passing(2)), ((("result", 2, 1),), None))
        _, events = told_by(later, 2, 0, 253, 255, 0, *X)
        self.same(events, (("result", 2, 8),))

    def test_a_passing_right_that_is_barred_stays(self):
        # 1 has it of 3, meant for 4; the border of 2 has no gate.
        kernel = receiving(stage(head=HEAD.replace("\nborder 2 6", "")), 1)
        kernel, _ = told_by(kernel, 3, 0, 4, 255, 0, *W)
        kernel, events = told_by(kernel, 1, 0, 253, 255, 0, *W)
        self.same((events, kernel.passing(1)), ((("result", 1, 9),), (4, 304, 3)))

    def test_one_that_passes_on_and_gets_another_one(self):
        kernel = receiving(receiving(stage(), 2), 0)
        kernel, _ = told_by(kernel, 4, 0, 0, 255, 0, *W)
        kernel, _ = told_by(edited(kernel, row=()), 4, 0, 1, 255, limits(None, 0), *X)
        kernel, events = told_by(kernel, 2, 0, 253, 254, limits(0, 0), *W)
        self.same(events, (("met", "sent", 2, 0, 0, None, W), ("met", "sent", 4, 2, 6, None, X), ("passing", 2, 1, None, 4), ("result", 4, 0)))
        self.same(kernel.passing(2), (1, None, 4))

    def test_a_message_for_a_border_gate_itself(self):
        # Meant for the gate of the border: nothing is turned.
        kernel, events = told_by(receiving(stage(), 1), 3, 0, 5, 255, 0, *W)
        self.same((events[1:], kernel.cell(1).registers[7]), ((("result", 3, 0),), 0))
        # Task 4 means gate 5, the border of task 1: at its chief's border it is turned.
        kernel, events = told_by(receiving(stage(), 2), 4, 0, 5, 255, 0, *W)
        self.same((events[1], kernel.cell(2).registers[7]), (("passing", 2, 5, None, 4), 32768 + 80 + 4))
        kernel = receiving(kernel, 1)
        kernel, events = told_by(kernel, 2, 0, 253, 255, 0, *W)
        self.same(events, (("met", "sent", 2, 1, 5, None, W), ("result", 2, 0)))
        self.same(kernel.cell(1).registers[7], 0)


if __name__ == "__main__":
    unittest.main()
