"""Turns follow waits: who runs, who lends, and the row behind each tick of random runs, told from its events."""

import unittest

from helpers import Checks
from runs import random_run
from stage import HEAD, JUMP, act, edited, limits, receiving, stage, told_by
from clankernel.lending import lent, payer

READY = ("ready",)


class LendingTest(unittest.TestCase, Checks):
    def test_lent_along_a_chain(self):
        """5, the greatest, calls 1, which calls 2, which sends to 4, the least: 4 runs with the priority of 5."""
        head = HEAD.replace("thread 4 4 0 4", "thread 4 4 0 1").replace("thread 5 1 0 4", "thread 5 1 0 6")
        kernel = receiving(receiving(stage(head=head), 1), 2)
        kernel = edited(kernel, {0: (JUMP, ()), 4: (JUMP, ())}, (0, 4))
        self.assertEqual(kernel.turns.next, 0)
        kernel, events = act(kernel, 5, 0, 1, 253, limits(None, None))
        self.assertEqual((events[-1][1:4], kernel.turns.next), (("called", 5, 1), 1))
        kernel, events = act(kernel, 1, 0, 2, 253, limits(None, None))
        self.assertEqual((events[-1][1:4], kernel.turns.next), (("called", 1, 2), 2))
        self.same(payer(kernel.turns, 2), (5, (2, 1, 5)))
        kernel, _ = act(kernel, 2, 0, 4, 255, limits(None, 0))
        self.assertEqual((kernel.turns.next, lent(kernel.turns, 4)), (4, (6, (4, 2, 1, 5))))
        # It runs ahead of 0, and pays itself; once it has met 2, that one goes on.
        self.same(payer(kernel.turns, 4), (4, (4,)))
        kernel, events = act(kernel, 4, 0, 255, 254, 0)
        self.assertEqual((events[-2][1:4], kernel.turns.next, lent(kernel.turns, 4)[0]), (("sent", 2, 4), 2, 1))

    def test_by_table_nothing_is_lent(self):
        head = HEAD.replace("thread 4 4 0 4", "thread 4 4 0 1").replace("thread 2 2 0 4", "thread 2 2 0 7")
        kernel = edited(stage(head=head, turns="4 1 2 1"), {4: (JUMP, ()), 2: (0, (4, 255, limits(None, 0)))}, (4, 2))
        self.same([event[1:3] for event in kernel.run(2)], [("row", 4), ("row", 2), ("call", 2)])
        self.assertEqual((kernel.turns.waits, kernel.turns.next), (((2, 4),), 4))
        self.same([event[1:3] for event in edited(kernel, {4: (JUMP, ())}).run(2)], [("row", 4), ("idle",)])


class FollowsTest(unittest.TestCase, Checks):
    def behind(self, ahead, events, later):
        """The turns behind a tick, told from those ahead, its events, and the waits behind it."""
        self.runner, self.waits = ahead.turns.next, later.waits
        self.turns = ahead.turns.passed()
        resting = {event[2] for event in events if event[1] == "rests"}
        set_to_rest = self.set_thread(ahead, events)
        for event in events:
            kind = event[1]
            if kind == "met":
                self.meeting(event[2:5], resting)
            if kind == "result" and (event[3] in range(1, 8)):
                self.put(event[2], False)
            if kind == "rests":
                self.put(event[2], True)
            if kind == "killed":
                gone = tuple(thread for thread, told in enumerate(self.turns.threads) if told[0] in event[2])
                self.turns = self.turns.gone(gone)
            if kind == "call" and event[3] == 4:
                self.turns = self.turns.give_way(self.runner)
        if set_to_rest is not None:
            self.put(*set_to_rest)
        if self.runner is not None and (set_to_rest is None or set_to_rest[0] != self.runner):
            self.put(self.runner, self.runner in resting)
        return self.turns

    def set_thread(self, ahead, events):
        """Whom a call set to rest or to be ready: (thread, whether it rests); None if none did."""
        if not any(event[1] == "call" and event[3] == 3 for event in events) or not any(event[1:] == ("result", self.runner, 0) for event in events):
            return None
        how, _, thread, _, one = ahead.cell(self.runner).registers[:5]
        return (thread, one == 0) if how == 0 and one < 2 else None

    def meeting(self, told, resting):
        kind, sender, receiver = told
        if kind == "called" and sender == self.runner and self.waits.owes(receiver) == sender:
            for thread, other in self.turns.calls:
                if other == receiver:
                    self.turns = self.turns.ready(thread).wait(thread, receiver)
            self.turns = self.turns.call(sender, receiver)
            return
        if kind == "replied" and (receiver, sender) in self.turns.calls:
            self.turns = self.turns.reply(sender, self.waits.state(sender) == READY)
        self.put(receiver, receiver in resting)
        if sender is not None:
            self.put(sender, sender in resting)

    def put(self, thread, rests):
        """A thread stands as its wait wants it."""
        state = self.waits.state(thread)
        other = None
        if state[0] == "sends":
            other = self.waits.owners[state[1]]
        if state[:2] == ("receives", "reply"):
            other = next(debtor for debtor in range(len(self.waits)) if debtor in self.waits and self.waits.owes(debtor) == thread)
        if state[0] == "gone" or (thread, other) in self.turns.calls + self.turns.waits:
            return
        if state == READY and not rests:
            if thread not in self.turns.row:
                self.turns = self.turns.ready(thread)
            return
        if thread not in self.turns.row and other is None and thread not in [one for one, _ in self.turns.calls + self.turns.waits]:
            return
        if thread not in self.turns.row:
            self.turns = self.turns.ready(thread)
        self.turns = self.turns.rest(thread) if other in (None, thread) else self.turns.wait(thread, other)

    def test_random_runs(self):
        seen = set()
        for seed in range(150):
            for events, ahead, later in random_run(1000 + seed, 40):
                self.assertEqual(self.behind(ahead, events, later).text, later.turns.text)
                seen |= {event[2] for event in events if event[1] == "met"} | {event[1] for event in events}
                seen |= {"calls"} if later.turns.calls else set()
                seen |= {"lost"} if any(event[1] == "result" and event[3] == 7 for event in events) else set()
        self.assertTrue({"sent", "called", "replied", "device", "killed", "rests", "calls", "lost"} <= seen, seen)

    def test_random_runs_by_their_waits(self):
        """Who is ready stands in the row or rests; who sends, or receives a reply, hangs on whom it waits for."""
        for seed in range(60):
            for _, _, kernel in random_run(2000 + seed, 30):
                waits, turns = kernel.waits, kernel.turns
                for thread in range(len(waits)):
                    state = waits.state(thread)
                    link = dict(turns.waits).get(thread), dict(turns.calls).get(thread)
                    if state[0] == "sends":
                        owner = waits.owners[state[1]]
                        self.assertEqual(link, (None if owner == thread else owner, None))
                    elif state[:2] == ("receives", "reply"):
                        debtor = [one for one in range(len(waits)) if one in waits and waits.owes(one) == thread][0]
                        self.assertIn(link, ((debtor, None), (None, debtor)))
                    else:
                        self.assertEqual(link, (None, None))
                    self.assertLessEqual(thread in turns.row, state == READY)
                    told = {"ready": "ready" if thread in turns.row else "rests"}.get(state[0], state[0])
                    self.assertIn(kernel.state(thread), (told, "faults") if told in ("sends", "receives") else (told,))


if __name__ == "__main__":
    unittest.main()
