import random
import unittest

from helpers import ANY_VALUES, Checks, is_int
from clankernel.errors import (
    BadBadge, BadDeeds, BadLimit, BadLot, BadSource, BadTo, BadWords, CoreError, NoGate, NoReply, NoThread, NotReady,
    NotWaited, NotWaiting)
from clankernel.meeting import broken, followed, gone, message, rung, ticked
from clankernel.waiting import Waits

# Threads 0 to 5; gates 0 and 1 of thread 1, gate 2 of thread 2, gate 3 of thread 0.
HEAD = "now 5\nthreads 4 4 4 4 4 4\ngates 1 1 2 0"
W = (1, 2, 3, 4)
X = (65535, 0, 7, 8)
NIL = (0, 0, 0, 0)


def waits(*lines):
    return Waits("\n".join((HEAD,) + lines))


def met(kind, sender, receiver, gate, badge, words):
    return ("met", kind, sender, receiver, gate, badge, words)


class Meeting(unittest.TestCase, Checks):
    def comes(self, outcome, told, *lines, head=HEAD):
        """A deed told these rows, and these lines stand behind it."""
        later, rows = outcome
        self.same(rows, tuple(told))
        self.assertEqual(later.text.split("\n"), head.split("\n") + list(lines))
        self.assertTrue(Waits(later.text) == later)


class FirstHalfTest(Meeting):
    def test_to_nobody(self):
        for limit in (0, 9, None):
            before = waits("receives 1 any 0 ever")
            self.comes(message(before, 0, None, None, W, limit, None, 0), (), "receives 1 any 0 ever")
            self.comes(message(before, 0, None, 7, W, limit, None, None), (), "receives 1 any 0 ever")

    def test_a_reply(self):
        for limit in (0, 9, None):
            before = waits("receives 3 reply 1 9", "owes 0 3")
            self.comes(message(before, 0, "reply", 7, W, limit, None, 0), [met("replied", 0, 3, None, None, W)])
            self.assertEqual(before.text, waits("receives 3 reply 1 9", "owes 0 3").text)

    def test_a_gate_whose_owner_is_gone(self):
        for limit in (0, 9, None):
            for source in (None, "reply", "any", 3):
                self.comes(message(waits("gone 1"), 0, 0, 7, W, limit, source, None), [("gone", 0, "send")], "gone 1")

    def test_an_owner_that_receives(self):
        for source in ("0", "any"):
            for limit in (0, 9, None):
                for badge in (None, 0, 65534):
                    before = waits(f"receives 1 {source} 2 8")
                    self.comes(message(before, 0, 0, badge, X, limit, None, 0), [met("sent", 0, 1, 0, badge, X)])
        self.comes(message(waits("receives 1 any 2 8"), 3, 1, 1, X, 0, None, 0), [met("sent", 3, 1, 1, 1, X)])

    def test_an_owner_that_does_not_receive_from_it(self):
        states = (("receives 1 1 2 8",), ("receives 1 reply 2 ever", "owes 2 1"), (), ("sends 1 2 3 0 0 0 0 1 ever none 0",),
                  ("sends 1 2 3 0 0 0 0 1 9 any 3",))
        for lines in states:
            late = message(waits(*lines), 0, 0, 7, W, 0, "reply", 3)
            self.comes(late, [("late", 0, "send")], *lines)
            self.comes(message(waits(*lines), 0, 0, 7, W, 9, None, 8), (), "sends 0 0 7 1 2 3 4 5 14 none 0", *lines)
            self.comes(message(waits(*lines), 0, 0, None, X, None, "any", 254), (),
                       "sends 0 0 none 65535 0 7 8 5 ever any 254", *lines)
            self.comes(message(waits(*lines), 0, 0, 0, W, 254, "reply", None), (),
                       "sends 0 0 0 1 2 3 4 5 259 reply ever", *lines)
            self.comes(message(waits(*lines), 0, 0, 0, W, 1, 3, 0), (), "sends 0 0 0 1 2 3 4 5 6 3 0", *lines)

    def test_without_a_second_half_its_limit_is_nought(self):
        for limit in (0, 254, None):
            later, _ = message(waits(), 0, 0, None, W, None, None, limit)
            self.same(later.state(0), ("sends", 0, None, W, 5, None, None, 0))

    def test_over_its_own_gate(self):
        self.comes(message(waits(), 1, 0, 7, W, 0, "any", None), [("late", 1, "send")])
        later, told = message(waits(), 1, 0, 7, W, 3, "any", None)
        self.comes((later, told), (), "sends 1 0 7 1 2 3 4 5 8 any ever")
        # Nobody but itself could meet it, and it waits.
        self.comes(message(later, 0, 1, 7, W, 0, None, 0), [("late", 0, "send")], "sends 1 0 7 1 2 3 4 5 8 any ever")
        self.comes(broken(later, 1), [("broken", 1, "send")])
        self.comes(gone(later, (1,)), (), "gone 1")


class SecondHalfTest(Meeting):
    def test_none(self):
        self.comes(message(waits("receives 1 any 0 ever", "sends 3 3 1 0 0 0 0 0 ever none 0"), 0, 0, 7, W, 0, None, None),
                   [met("sent", 0, 1, 0, 7, W)], "sends 3 3 1 0 0 0 0 0 ever none 0")

    def test_a_reply(self):
        before = waits("receives 1 0 0 ever")
        call = [met("called", 0, 1, 0, 7, W)]
        self.comes(message(before, 0, 0, 7, W, 0, "reply", 0), call + [("late", 0, "receive")])
        self.comes(message(before, 0, 0, 7, W, 0, "reply", 3), call, "receives 0 reply 5 8", "owes 1 0")
        self.comes(message(before, 0, 0, 7, W, 0, "reply", None), call, "receives 0 reply 5 ever", "owes 1 0")

    def test_who_is_given_up_is_lost_directly_behind(self):
        before = waits("receives 1 any 0 ever", "receives 3 reply 0 9", "owes 1 3")
        call = met("called", 0, 1, 0, 7, W)
        self.comes(message(before, 0, 0, 7, W, 0, "reply", 3), [call, ("lost", 3)], "receives 0 reply 5 8", "owes 1 0")
        # With limit 0 nothing is owed anew, and nothing is given up; neither by what is sent.
        self.comes(message(before, 0, 0, 7, W, 0, "reply", 0), [call, ("late", 0, "receive")],
                   "receives 3 reply 0 9", "owes 1 3")
        self.comes(message(before, 0, 0, 7, W, 0, None, 0), [met("sent", 0, 1, 0, 7, W)],
                   "receives 3 reply 0 9", "owes 1 3")

    def test_lost_stands_ahead_of_what_comes_behind_its_meeting(self):
        before = waits("sends 2 3 5 1 2 3 4 0 ever reply 9", "receives 3 reply 0 9", "sends 4 3 6 9 9 9 9 1 ever none 0",
                       "owes 0 3")
        self.comes(message(before, 0, None, None, NIL, 0, 3, 0), [met("called", 2, 0, 3, 5, W), ("lost", 3)],
                   "receives 2 reply 5 14", "sends 4 3 6 9 9 9 9 1 ever none 0", "owes 0 2")

    def test_who_owes_keeps_its_debt_while_it_calls(self):
        before = waits("receives 1 any 0 ever", "receives 3 reply 0 9", "owes 0 3")
        self.comes(message(before, 0, 0, 7, W, 0, "reply", None), [met("called", 0, 1, 0, 7, W)],
                   "receives 0 reply 5 ever", "receives 3 reply 0 9", "owes 0 3", "owes 1 0")

    def test_a_gate_or_any_without_senders(self):
        for source in (3, "any"):
            self.comes(message(waits(), 0, None, None, NIL, None, source, 0), [("late", 0, "receive")])
            self.comes(message(waits(), 0, None, None, NIL, 0, source, 254), (), f"receives 0 {source} 5 259")
            self.comes(message(waits(), 0, None, None, NIL, 0, source, None), (), f"receives 0 {source} 5 ever")
        # A sender over another gate of its own is none.
        lines = ("sends 3 1 7 1 2 3 4 0 ever none 0",)
        self.comes(message(waits(*lines), 1, None, None, NIL, 0, 0, 0), [("late", 1, "receive")], *lines)
        self.comes(message(waits(*lines), 1, None, None, NIL, 0, 0, None), (), "receives 1 0 5 ever", *lines)
        self.comes(message(waits(*lines), 0, None, None, NIL, 0, "any", 4), (), "receives 0 any 5 9", *lines)

    def test_any_of_a_thread_without_gates(self):
        self.comes(message(waits(), 5, None, None, NIL, 0, "any", 4), (), "receives 5 any 5 9")
        self.comes(message(waits(), 5, None, None, NIL, 0, "any", 0), [("late", 5, "receive")])

    def test_a_gate_or_any_with_a_sender(self):
        for source in (1, "any"):
            for limit in (0, 7, None):
                before = waits("sends 3 1 none 1 2 3 4 0 9 none 0")
                self.comes(message(before, 1, None, None, NIL, None, source, limit), [met("sent", 3, 1, 1, None, W)])

    def test_behind_a_reply(self):
        lines = ("receives 3 reply 1 9", "sends 4 3 8 65535 0 7 8 2 7 reply 2", "owes 0 3")
        first = met("replied", 0, 3, None, None, W)
        self.comes(message(waits(*lines), 0, "reply", None, W, 0, "any", None), [first, met("called", 4, 0, 3, 8, X)],
                   "receives 4 reply 5 7", "owes 0 4")
        self.comes(message(waits(lines[0], lines[2]), 0, "reply", None, W, 0, 3, None), [first], "receives 0 3 5 ever")
        self.comes(message(waits(lines[0], lines[2]), 0, "reply", None, W, 0, 3, 0), [first, ("late", 0, "receive")])
        # Who is answered may be the one that is met at once.
        both = waits("receives 3 reply 1 9", "owes 1 3")
        self.comes(message(both, 1, "reply", None, W, 0, 1, 9), [met("replied", 1, 3, None, None, W)], "receives 1 1 5 14")

    def test_the_second_half_of_a_call_by_gate_or_any(self):
        before = waits("receives 1 any 0 ever", "sends 3 3 6 1 2 3 4 0 ever none 0")
        self.comes(message(before, 0, 0, 7, X, 0, "any", 0), [met("sent", 0, 1, 0, 7, X), met("sent", 3, 0, 3, 6, W)])
        self.comes(message(before, 0, 0, 7, X, 0, 3, None), [met("sent", 0, 1, 0, 7, X), met("sent", 3, 0, 3, 6, W)])


class ChainTest(Meeting):
    def test_who_is_met_goes_on_and_meets(self):
        # 1 receives; 2 sends to 1, and receives then; 3 sends to 2, and receives then; 4 calls 2.
        before = waits("sends 2 0 1 1 1 1 1 0 ever any 0", "sends 3 2 2 2 2 2 2 0 ever any 3", "sends 4 2 3 3 3 3 3 0 ever reply 9")
        rows = [met("sent", 2, 1, 0, 1, (1,) * 4), met("sent", 3, 2, 2, 2, (2,) * 4)]
        self.comes(message(before, 1, None, None, NIL, 0, "any", None), rows,
                   "receives 3 any 5 8", "sends 4 2 3 3 3 3 3 0 ever reply 9")

    def test_a_chain_that_ends_late(self):
        before = waits("sends 2 0 1 1 1 1 1 0 ever 2 0")
        self.comes(message(before, 1, None, None, NIL, 0, 0, None),
                   [met("sent", 2, 1, 0, 1, (1,) * 4), ("late", 2, "receive")])
        before = waits("sends 2 0 1 1 1 1 1 0 ever reply 0")
        self.comes(message(before, 1, None, None, NIL, 0, 0, None),
                   [met("called", 2, 1, 0, 1, (1,) * 4), ("late", 2, "receive")])

    def test_a_chain_back_to_who_began(self):
        # 1 meets 2, which meets 0, which receives from its own gate then; 1 itself stays ready.
        before = waits("sends 0 2 9 1 2 3 4 3 8 3 4", "sends 2 1 none 65535 0 7 8 4 ever 2 9")
        self.comes(message(before, 1, None, None, NIL, 0, "any", 0),
                   [met("sent", 2, 1, 1, None, X), met("sent", 0, 2, 2, 9, W)], "receives 0 3 5 9")

    def test_a_met_call_takes_the_reply_from_another_one(self):
        before = waits("receives 0 reply 0 ever", "sends 2 0 1 1 2 3 4 0 ever reply 9", "owes 1 0")
        self.comes(message(before, 1, None, None, NIL, 0, "any", 0), [met("called", 2, 1, 0, 1, W), ("lost", 0)],
                   "receives 2 reply 5 14", "owes 1 2")


class SequenceTest(Meeting):
    head = "now 9\nthreads 3 3 5 3 7 0 5 3\ngates 7 7"

    def test_who_is_met_first(self):
        lines = {thread: f"sends {thread} {gate} none {thread} 0 0 0 {since} ever none 0"
                 for thread, gate, since in ((0, 0, 4), (1, 1, 2), (2, 0, 9), (3, 0, 2), (4, 1, 9), (5, 0, 0), (6, 1, 5))}
        for source, sequence in (("any", (4, 6, 2, 1, 3, 0, 5)), (0, (2, 3, 0, 5)), (1, (4, 6, 1))):
            left = dict(lines)
            for thread in sequence:
                now = Waits("\n".join([self.head] + [left[key] for key in sorted(left)]))
                _, told = message(now, 7, None, None, NIL, 0, source, 0)
                self.same([row[2] for row in told], [thread])
                del left[thread]


class RungTest(Meeting):
    def test_a_device(self):
        for source in ("0", "any"):
            for badge in (None, 0, 65534):
                before = waits(f"receives 1 {source} 2 8", "gone 5")
                self.comes(rung(before, 0, badge, X), [met("device", None, 1, 0, badge, X)], "gone 5")
        others = ("sends 3 1 7 1 2 3 4 0 ever none 0",)
        self.comes(rung(waits("receives 1 0 2 8", *others), 0, 1, X), [met("device", None, 1, 0, 1, X)], *others)

    def test_no_reply_is_owed(self):
        before = waits("receives 1 0 2 8", "receives 3 reply 0 ever", "owes 1 3")
        self.comes(rung(before, 0, 1, W), [met("device", None, 1, 0, 1, W)], "receives 3 reply 0 ever", "owes 1 3")

    def test_not_waited(self):
        for lines in ((), ("gone 1",), ("receives 1 1 2 8",), ("receives 1 reply 2 8", "owes 0 1"),
                      ("sends 1 0 7 0 0 0 0 0 ever any 0",)):
            self.fails(NotWaited, 0, rung, waits(*lines), 0, 7, W)

    def test_errors(self):
        before = waits()
        for gate in (-1, 4, True, None, "0", (0,), "any", [0]):
            self.fails(NoGate, gate, rung, before, gate, -1, ())
        for badge in (-1, 65535, True, "none", (), []):
            self.fails(BadBadge, badge, rung, before, 0, badge, ())
        for words in WRONG_WORDS:
            self.fails(BadWords, words, rung, before, 0, 0, words)


WRONG_WORDS = ((), (1, 2, 3), (1, 2, 3, 4, 5), [1, 2, 3, 4], (1, 2, 3, 65536), (1, 2, 3, -1), (1, 2, 3, True), None, 0,
               "1234", (1, 2, 3, None))
WRONG_LIMITS = (-1, 255, True, False, "0", "ever", (), [0], (0,))


class TickedTest(Meeting):
    def later(self, outcome, told, *lines):
        self.comes(outcome, told, *lines, head=HEAD.replace("now 5", "now 6"))

    def test_nothing_ends(self):
        lines = ("sends 0 0 7 1 2 3 4 0 7 none 0", "receives 1 1 0 ever", "gone 5")
        self.later(ticked(waits(*lines)), (), *lines)
        self.later(ticked(waits()), ())

    def test_limits_end_at_the_very_tick(self):
        lines = ("receives 0 3 0 6", "sends 1 2 7 1 2 3 4 0 6 reply 9", "receives 2 reply 5 6", "receives 3 any 5 7",
                 "sends 4 0 7 1 2 3 4 0 6 none 0", "receives 5 reply 0 ever", "owes 0 5", "owes 1 2")
        self.later(ticked(waits(*lines)),
                   [("late", 0, "receive"), ("late", 1, "send"), ("late", 2, "receive"), ("late", 4, "send")],
                   "receives 3 any 5 7", "receives 5 reply 0 ever", "owes 0 5")

    def test_a_limit_of_one(self):
        later, _ = message(waits(), 0, 0, None, W, 1, None, 0)
        self.later(ticked(later), [("late", 0, "send")])
        later, _ = message(waits(), 0, None, None, W, 1, "any", 2)
        later, told = ticked(later)
        self.same(told, ())
        self.same(ticked(later)[1], (("late", 0, "receive"),))


class BrokenTest(Meeting):
    def test_broken(self):
        lines = ("sends 0 0 7 1 2 3 4 0 7 reply 5", "receives 1 1 0 ever", "receives 2 reply 0 ever", "owes 0 2")
        self.comes(broken(waits(*lines), 0), [("broken", 0, "send")], *lines[1:])
        self.comes(broken(waits(*lines), 1), [("broken", 1, "receive")], lines[0], *lines[2:])
        self.comes(broken(waits(*lines), 2), [("broken", 2, "receive")], *lines[:2])

    def test_errors(self):
        before = waits("gone 0")
        self.fails(NotWaiting, 0, broken, before, 0)
        self.fails(NotWaiting, 1, broken, before, 1)
        for thread in (-1, 6, True, None, "0", (0,), [0]):
            self.fails(NoThread, thread, broken, before, thread)


class GoneTest(Meeting):
    lines = ("sends 0 2 7 1 2 3 4 0 7 reply 5", "receives 1 1 0 ever", "receives 3 reply 0 ever", "receives 4 reply 0 9",
             "sends 5 2 7 1 2 3 4 0 ever none 0", "owes 0 4", "owes 2 3")

    def test_senders_and_who_is_owed(self):
        self.comes(gone(waits(*self.lines), (2,)), [("gone", 0, "send"), ("gone", 3, "receive"), ("gone", 5, "send")],
                   "receives 1 1 0 ever", "gone 2", "receives 4 reply 0 9", "owes 0 4")

    def test_who_goes_is_told_nothing(self):
        self.comes(gone(waits(*self.lines), (0, 2, 3)), [("gone", 4, "receive"), ("gone", 5, "send")],
                   "gone 0", "receives 1 1 0 ever", "gone 2", "gone 3")
        self.comes(gone(waits(*self.lines), (3, 4)), (), *self.lines[:2], "gone 3", "gone 4", self.lines[4])
        self.comes(gone(waits(*self.lines), (0, 1, 2, 3, 4, 5)), (), *[f"gone {thread}" for thread in range(6)])
        self.comes(gone(waits(*self.lines), ()), (), *self.lines)

    def test_who_receives_from_them_waits_on(self):
        before = waits("receives 0 any 0 ever")
        self.comes(gone(before, (1, 2, 3, 4, 5)), (), "receives 0 any 0 ever", *[f"gone {thread}" for thread in (1, 2, 3, 4, 5)])

    def test_errors(self):
        before = waits("gone 3")
        for lot in ((3,), (0, 3), (1, 0), (1, 1), (6,), (-1,), (True,), [1], None, 1, ("1",), ((1,),), {}, "1"):
            self.fails(BadLot, lot, gone, before, lot)


class ErrorsTest(Meeting):
    def setUp(self):
        self.before = waits("receives 1 any 0 ever", "gone 2", "sends 3 3 7 1 2 3 4 0 ever none 0", "receives 4 reply 0 ever",
                            "owes 5 4")

    def tearDown(self):
        self.assertEqual(len(self.before.text.split("\n")), 8)
        self.same(self.before.state(0), ("ready",))

    def wrong(self, error, value, *args):
        self.fails(error, value, message, self.before, *args)

    def test_each_one_ahead_of_those_behind_it(self):
        bad = object()
        for thread in (-1, 6, True, False, None, "0", (0,), [0]):
            self.wrong(NoThread, thread, thread, bad, bad, bad, bad, bad, bad)
        for thread in (1, 2, 3, 4):
            self.wrong(NotReady, thread, thread, bad, bad, bad, bad, bad, bad)
        for to in (-1, 4, True, False, "any", "Reply", (), (0,), [0], ["reply"], {}):
            self.wrong(BadTo, to, 0, to, -1, (), -1, "no", -1)
        for badge in (-1, 65535, True, False, "none", "7", (), [7]):
            self.wrong(BadBadge, badge, 0, 0, badge, (), -1, "no", -1)
        for words in WRONG_WORDS:
            self.wrong(BadWords, words, 0, 0, None, words, -1, "no", -1)
        for limit in WRONG_LIMITS:
            self.wrong(BadLimit, limit, 0, 0, None, W, limit, "no", -1)
        for source in (-1, 0, 1, 2, 4, True, False, "none", (), (3,), [3], "Any"):
            self.wrong(BadSource, source, 0, 0, None, W, 0, source, -1)
        for limit in WRONG_LIMITS:
            for source in (None, "any", 3, "reply"):
                self.wrong(BadLimit, limit, 0, 0, None, W, 0, source, limit)
        self.wrong(NoReply, 0, 0, "reply", None, W, 0, None, 0)
        self.wrong(NoReply, 0, 0, "reply", None, W, 0, "any", None)

    def test_a_reply_is_received_of_a_gate_alone(self):
        self.wrong(BadSource, "reply", 5, "reply", None, W, 0, "reply", 0)
        self.wrong(BadSource, "reply", 0, "reply", None, W, 0, "reply", 0)
        self.wrong(BadSource, "reply", 0, None, None, W, 0, "reply", 0)

    def test_any_values(self):
        for value in ANY_VALUES:
            if not (value is None or is_int(value, 0, 3)):
                self.wrong(BadTo, value, 0, value, None, W, 0, None, 0)
            if not (value is None or is_int(value, 0, 65534)):
                self.wrong(BadBadge, value, 0, None, value, W, 0, None, 0)
            if not (value is None or is_int(value, 0, 254)):
                self.wrong(BadLimit, value, 0, None, None, W, value, None, 0)
            if value is not None:
                self.wrong(BadSource, value, 5, None, None, W, 0, value, 0)
            self.wrong(BadWords, value, 0, None, None, value, 0, None, 0)


class FollowedTest(Meeting):
    deeds = (("message", 1, None, None, NIL, 0, "any", 4), ("message", 0, 0, 7, W, 0, "reply", None), ("ticked",),
             ("message", 2, 1, None, X, None, None, 0), ("broken", 0), ("message", 1, None, None, NIL, 0, "any", None),
             ("message", 1, None, None, NIL, 0, "any", None), ("rung", 0, 5, X), ("gone", (1, 4)))

    def test_all_together(self):
        later, told = followed(waits(), self.deeds)
        self.same(told, (met("called", 0, 1, 0, 7, W), ("broken", 0, "receive"), met("sent", 2, 1, 1, None, X),
                         met("device", None, 1, 0, 5, X)))
        self.assertEqual(later.text, HEAD.replace("now 5", "now 6") + "\ngone 1\ngone 4")
        self.comes(followed(waits("gone 0"), ()), (), "gone 0")

    def test_the_first_that_is_refused(self):
        for at in range(len(self.deeds)):
            for wrong in (("broken", 3), ("broken", 9), ("rung", 2, 1, W), ("gone", [1]), ("gone",), (), ("tick",), ["ticked"],
                          ("ticked", 1), ("broken",), "ticked", None, 0, ("message", 3), ({},), ([], 1), (0,),
                          ("message", 3, None, None, NIL, 0, None), ("message", 3, 0, 0, NIL, 0, None, -1)):
                deeds = self.deeds[:at] + (wrong,) + self.deeds[at:]
                self.fails(BadDeeds, at, followed, waits(), deeds)
                self.fails(BadDeeds, at, followed, waits(), deeds + (None, ("broken", 9)))

    def test_no_such_tuple(self):
        for value in ANY_VALUES:
            if type(value) is not tuple:
                self.fails(BadDeeds, 0, followed, waits(), value)
        self.fails(BadDeeds, 0, followed, waits(), (("ticked",),) * 401)
        self.fails(BadDeeds, 0, followed, waits(), (("ticked",),) * 399 + (None, None))
        self.fails(BadDeeds, 399, followed, waits(), (("ticked",),) * 399 + (None,))
        self.assertEqual(followed(waits(), (("ticked",),) * 400)[0].now, 405)


class Model:
    """Waits of another shape: a dict for each thread; who began to wait, for what, looked at meeting by meeting."""

    def __init__(self, priorities, owners):
        self.now = 0
        self.priorities, self.owners = priorities, owners
        self.threads = [{"is": "ready", "owes": None} for _ in priorities]

    def text(self):
        none = {None: "none"}
        ever = {None: "ever"}
        lines = [f"now {self.now}", "threads " + " ".join(map(str, self.priorities)),
                 " ".join(["gates"] + [str(owner) for owner in self.owners])]
        for number, one in enumerate(self.threads):
            if one["is"] == "gone":
                lines.append(f"gone {number}")
            if one["is"] == "sends":
                words = " ".join(map(str, one["words"]))
                lines.append(f"sends {number} {one['gate']} {none.get(one['badge'], one['badge'])} {words} {one['since']} "
                             f"{ever.get(one['till'], one['till'])} {none.get(one['then'], one['then'])} "
                             f"{ever.get(one['limit'], one['limit'])}")
            if one["is"] == "receives":
                lines.append(f"receives {number} {one['source']} {one['since']} {ever.get(one['till'], one['till'])}")
        return "\n".join(lines + [f"owes {number} {one['owes']}" for number, one in enumerate(self.threads)
                                  if one["owes"] is not None])

    def end(self, number, told):
        for one in self.threads:
            if one["owes"] == number:
                one["owes"] = None
        half = {"sends": "send", "receives": "receive"}[self.threads[number]["is"]]
        self.threads[number]["is"] = "ready"
        return (told, number, half)

    def sends_to(self, number):
        """All (priority, since, number) that send to this one."""
        return sorted((-self.priorities[other], one["since"], other, one["gate"]) for other, one in enumerate(self.threads)
                      if one["is"] == "sends" and self.owners[one["gate"]] == number)

    def begin(self, number, source, limit, partner):
        """Second halves, one behind the other: a loop, where the program goes down."""
        rows = []
        while source is not None:
            one = self.threads[number]
            mine = [row for row in self.sends_to(number) if source in ("any", row[3])] if source != "reply" else []
            if mine:
                other = mine[0][2]
                sent = self.threads[other]
                rows.append(("met", "called" if sent["then"] == "reply" else "sent", other, number, sent["gate"],
                             sent["badge"], sent["words"]))
                sent["is"] = "ready"
                number, source, limit, partner = other, sent["then"], sent["limit"], number
                continue
            if limit == 0:
                rows.append(("late", number, "receive"))
                break
            if source == "reply":
                if self.threads[partner]["owes"] is not None:
                    lost = self.threads[partner]["owes"]
                    self.threads[lost]["is"] = "ready"
                    rows.append(("lost", lost))
                self.threads[partner]["owes"] = number
            one.update({"is": "receives", "source": source, "since": self.now,
                        "till": None if limit is None else self.now + limit})
            break
        return rows

    def message(self, number, to, badge, words, limit, source, wait):
        one = self.threads[number]
        if to is None:
            return self.begin(number, source, wait, None)
        if to == "reply":
            other, one["owes"] = one["owes"], None
            self.threads[other]["is"] = "ready"
            return [("met", "replied", number, other, None, None, words)] + self.begin(number, source, wait, None)
        owner = self.threads[self.owners[to]]
        if owner["is"] == "gone":
            return [("gone", number, "send")]
        if owner["is"] == "receives" and owner["source"] in ("any", to):
            owner["is"] = "ready"
            kind = "called" if source == "reply" else "sent"
            row = ("met", kind, number, self.owners[to], to, badge, words)
            return [row] + self.begin(number, source, wait, self.owners[to])
        if limit == 0:
            return [("late", number, "send")]
        one.update({"is": "sends", "gate": to, "badge": badge, "words": words, "since": self.now,
                    "till": None if limit is None else self.now + limit, "then": source,
                    "limit": 0 if source is None else wait})
        return []

    def ticked(self):
        self.now += 1
        return [self.end(number, "late") for number, one in enumerate(self.threads)
                if one["is"] in ("sends", "receives") and one["till"] == self.now]

    def gone(self, lot):
        waiting = [number for number, one in enumerate(self.threads) if number not in lot and (
            (one["is"] == "sends" and self.owners[one["gate"]] in lot)
            or (one["is"] == "receives" and any(self.threads[other]["owes"] == number for other in lot)))]
        rows = [self.end(number, "gone") for number in waiting]
        for number, one in enumerate(self.threads):
            if one["owes"] in lot:
                one["owes"] = None
        for number in lot:
            self.threads[number] = {"is": "gone", "owes": None}
        return rows


class RandomTest(Meeting):
    def test_random_courses_beside_a_model(self):
        seen = set()
        for seed in range(150):
            chance = random.Random(seed)
            many = chance.randrange(2, 9)
            owners = tuple(chance.randrange(many) for _ in range(chance.randrange(0, 7)))
            priorities = tuple(chance.randrange(8) for _ in range(many))
            now = Waits(f"now 0\nthreads {' '.join(map(str, priorities))}\n" + " ".join(["gates"] + [str(at) for at in owners]))
            self.one_course(chance, now, Model(priorities, owners), seen)
        self.assertEqual(seen, {"sent", "called", "replied", "device", "late", "broken", "gone", "lost"})

    def one_course(self, chance, start, model, seen):
        now, deeds, all_told = start, [], []
        for _ in range(60):
            deed = self.some_deed(chance, now)
            try:
                before = now.text
                behind, told = self.done(now, deed)
                self.assertEqual(now.text, before)
            except CoreError:
                continue
            now = behind
            self.same(list(told), self.on_model(model, deed))
            self.assertEqual(now.text, model.text())
            deeds.append(deed)
            all_told.extend(told)
            seen.update(row[1] if row[0] == "met" else row[0] for row in told)
        later, told = followed(start, tuple(deeds))
        self.assertTrue(later == now)
        self.same(told, tuple(all_told))

    def some_deed(self, chance, now):
        many, gates = len(now), len(now.owners)
        limit = lambda: chance.choice((0, 1, 2, 5, None, None))
        gate = chance.randrange(gates) if gates else 0
        words = tuple(chance.randrange(65536) for _ in range(4))
        thread = chance.randrange(many)
        kind = chance.random()
        if kind < 0.75:
            own = [at for at, owner in enumerate(now.owners) if owner == thread]
            to = chance.choice((None, "reply", gate, gate, gate))
            source = chance.choice([None, "any", "any", "reply", "reply"] + own)
            return ("message", thread, to, chance.choice((None, 0, 65534)), words, limit(), source, limit())
        if kind < 0.82:
            return ("rung", gate, chance.choice((None, 3)), words)
        if kind < 0.92:
            return ("ticked",)
        if kind < 0.99:
            return ("broken", thread)
        return ("gone", (thread,) if chance.random() < 0.7 or thread == many - 1 else (thread, many - 1))

    def done(self, now, deed):
        calls = {"message": message, "rung": rung, "ticked": ticked, "broken": broken, "gone": gone}
        return calls[deed[0]](now, *deed[1:])

    def on_model(self, model, deed):
        if deed[0] == "message":
            return model.message(*deed[1:])
        if deed[0] == "rung":
            owner = model.owners[deed[1]]
            model.threads[owner]["is"] = "ready"
            return [("met", "device", None, owner) + deed[1:]]
        if deed[0] == "broken":
            return [model.end(deed[1], "broken")]
        return model.ticked() if deed[0] == "ticked" else model.gone(deed[1])


if __name__ == "__main__":
    unittest.main()
