import random
import unittest

from helpers import ANY_VALUES, Checks
from clankernel.errors import BadTold, CoreError
from clankernel.ledger import call_pairs, ledger
from clankernel.meeting import broken, gone, message, ticked
from clankernel.waiting import Waits

W = (1, 2, 3, 65535)


def sent(sender, receiver, kind="sent"):
    return ("met", kind, sender, receiver, 3, 7, W)


def called(sender, receiver):
    return sent(sender, receiver, "called")


def replied(sender, receiver):
    return ("met", "replied", sender, receiver, None, None, W)


RIGHT = (
    sent(0, 1), called(7, 0), replied(0, 7), ("met", "device", None, 7, 0, 65534, W), ("met", "device", None, 0, 11, None, W),
    ("met", "sent", 0, 1, 0, None, (0, 0, 0, 0)), ("met", "called", 0, 1, 11, 0, W), ("late", 0, "send"), ("late", 7, "receive"),
    ("broken", 1, "send"), ("broken", 1, "receive"), ("gone", 1, "send"), ("gone", 1, "receive"), ("lost", 0), ("lost", 7),
)
WRONG = (
    (), ("met",), ("met", "sent", 0, 1, 3, 7), ("met", "sent", 0, 1, 3, 7, W, 0), ("Met", "sent", 0, 1, 3, 7, W),
    ["met", "sent", 0, 1, 3, 7, W], ("met", "sending", 0, 1, 3, 7, W), ("met", None, 0, 1, 3, 7, W), ("met", ["sent"], 0, 1, 3, 7, W),
    ("met", "sent", 1, 1, 3, 7, W), ("met", "called", 0, 0, 3, 7, W), ("met", "replied", 4, 4, None, None, W),
    ("met", "sent", -1, 1, 3, 7, W), ("met", "sent", 8, 1, 3, 7, W), ("met", "sent", None, 1, 3, 7, W), ("met", "sent", True, 0, 3, 7, W),
    ("met", "sent", 0, 8, 3, 7, W), ("met", "sent", 0, -1, 3, 7, W), ("met", "sent", 0, None, 3, 7, W), ("met", "sent", 0, True, 3, 7, W),
    ("met", "sent", 0, 1, 12, 7, W), ("met", "sent", 0, 1, -1, 7, W), ("met", "sent", 0, 1, None, 7, W), ("met", "sent", 0, 1, True, 7, W),
    ("met", "called", 0, 1, None, None, W), ("met", "sent", 0, 1, 3, 65535, W), ("met", "sent", 0, 1, 3, -1, W),
    ("met", "sent", 0, 1, 3, "none", W), ("met", "sent", 0, 1, 3, False, W), ("met", "sent", 0, 1, 3, 7, W[:3]),
    ("met", "sent", 0, 1, 3, 7, list(W)), ("met", "sent", 0, 1, 3, 7, (1, 2, 3, 65536)), ("met", "sent", 0, 1, 3, 7, (1, 2, 3, True)),
    ("met", "sent", 0, 1, 3, 7, None), ("met", "replied", 0, 1, 3, None, W), ("met", "replied", 0, 1, None, 7, W),
    ("met", "replied", None, 1, None, None, W), ("met", "device", 0, 1, 3, 7, W), ("met", "device", None, 1, None, 7, W),
    ("met", "device", None, 1, 12, 7, W), ("met", "device", None, 8, 3, 7, W), ("met", "device", None, 1, 3, 65535, W),
    ("met", "device", None, 1, 3, 7, W + (1,)),
    ("late",), ("late", 0), ("late", 0, None), ("late", 0, "Send"), ("late", 8, "send"), ("late", -1, "send"), ("late", True, "send"),
    ("late", 0, "send", 0), ("late", 0, ["send"]), ("broken", 0), ("gone", 0), ("gone", 0, "lost"), ("lost",), ("lost", 8), ("lost", True),
    ("lost", 0, "receive"), ("lost", 0, None), ("done", 0),
    ("done", 0, "send"), ("ready", 0, "receive"), ("sent", 0, 1, 3, 7, W), (None, 0), (0,), "lost", None, 0, ({}, 0), ([], 0, "send"),
)


class FormsTest(unittest.TestCase, Checks):
    def wrong(self, number, told):
        self.fails(BadTold, number, ledger, told)
        self.fails(BadTold, number, call_pairs, told)

    def test_each_right_row(self):
        for row in RIGHT:
            self.same(ledger((row,)), (row[1:],) if row[0] == "met" else ())
        self.same(ledger(RIGHT), tuple(row[1:] for row in RIGHT if row[0] == "met"))
        self.same((ledger(()), call_pairs(())), ((), ()))

    def test_the_first_row_that_is_none(self):
        for row in WRONG:
            self.wrong(0, (row,))
            self.wrong(len(RIGHT), RIGHT + (row,) + RIGHT)
            self.wrong(2, RIGHT[:2] + (row, None, ()))

    def test_values_of_any_kind(self):
        for value in ANY_VALUES:
            if type(value) is not tuple or value != ():
                self.wrong(0, value)
            self.wrong(1, RIGHT[:1] + (value,))
        self.wrong(0, [RIGHT[0]])


class PairsTest(unittest.TestCase, Checks):
    def pairs(self, *told):
        return call_pairs(told)

    def test_replied(self):
        self.same(self.pairs(called(0, 1), replied(1, 0)), ((0, 1),))
        self.same(self.pairs(called(0, 1), sent(2, 1), ("met", "device", None, 1, 0, 0, W), replied(1, 0)), ((0, 3),))
        self.same(self.pairs(sent(0, 1), called(0, 1)), ((1, None),))

    def test_numbers_are_those_of_the_ledger(self):
        told = (("late", 3, "send"), sent(2, 3), ("lost", 4), called(0, 1), ("broken", 5, "receive"), replied(1, 0))
        self.same(call_pairs(told), ((1, 2),))
        self.same([row[0] for row in ledger(told)], ["sent", "called", "replied"])

    def test_a_call_that_ended_otherwise(self):
        for row in (("late", 0, "receive"), ("broken", 0, "receive"), ("gone", 0, "receive"), ("lost", 0)):
            self.same(self.pairs(called(0, 1), row, replied(1, 0)), ((0, None),))
            self.same(self.pairs(called(0, 1), row, called(0, 1), replied(1, 0)), ((0, None), (1, 2)))
            # Of the other one, or behind the reply, it ends nothing.
            other = row[:1] + (1,) + row[2:]
            self.same(self.pairs(called(0, 1), other, replied(1, 0)), ((0, 1),))
            self.same(self.pairs(called(0, 1), replied(1, 0), row), ((0, 1),))
            self.same(self.pairs(row, called(0, 1), replied(1, 0)), ((0, 1),))

    def test_one_behind_the_other(self):
        self.same(self.pairs(called(0, 1), replied(1, 0), called(0, 1), replied(1, 0)), ((0, 1), (2, 3)))
        self.same(self.pairs(called(0, 1), called(0, 1), replied(1, 0)), ((0, None), (1, 2)))
        self.same(self.pairs(called(0, 1), called(0, 1), replied(1, 0), replied(1, 0)), ((0, None), (1, 2)))
        self.same(self.pairs(called(0, 1), replied(1, 0), replied(1, 0)), ((0, 1),))

    def test_both_directions(self):
        self.same(self.pairs(called(0, 1), called(1, 0), replied(0, 1), replied(1, 0)), ((0, 3), (1, 2)))
        self.same(self.pairs(called(0, 1), called(1, 0), replied(1, 0), replied(0, 1)), ((0, 2), (1, 3)))
        self.same(self.pairs(called(0, 1), replied(0, 1)), ((0, None),))

    def test_of_several_threads(self):
        self.same(self.pairs(called(0, 1), called(1, 2), called(3, 4), replied(2, 1), replied(1, 0)),
                  ((0, 4), (1, 3), (2, None)))
        self.same(self.pairs(called(0, 1), called(0, 2), replied(1, 0), replied(2, 0)), ((0, 2), (1, 3)))

    def test_told_by_deeds(self):
        for seed in range(60):
            chance = random.Random(seed)
            now, told = Waits("now 0\nthreads 4 4 4 4\ngates 0 1 2 3"), ()
            for _ in range(80):
                now, rows = self.one_deed(chance, now)
                told = told + rows
            self.once_each(now, told)

    def one_deed(self, chance, now):
        thread = chance.randrange(4)
        deeds = (
            lambda: message(now, thread, chance.randrange(4), None, W, chance.choice((0, 3, None)), "reply", chance.choice((2, None))),
            lambda: message(now, thread, chance.choice((None, "reply")), None, W, 0, "any", chance.choice((3, None))),
            lambda: message(now, thread, chance.choice((None, "reply")), None, W, 0, "any", chance.choice((3, None))),
            lambda: ticked(now), lambda: broken(now, thread), lambda: gone(now, (thread,) if chance.random() < 0.05 else ()),
        )
        try:
            return chance.choice(deeds)()
        except CoreError:
            return now, ()

    def once_each(self, now, told):
        """Each reply is that of one call, and who still waits for one has the last open call."""
        rows = ledger(told)
        pairs = call_pairs(told)
        self.same([call for call, _ in pairs], [at for at, row in enumerate(rows) if row[0] == "called"])
        replies = [reply for _, reply in pairs if reply is not None]
        self.same(sorted(replies), [at for at, row in enumerate(rows) if row[0] == "replied"])
        for call, reply in pairs:
            if reply is not None:
                self.assertLess(call, reply)
                self.assertEqual(rows[call][1:3], rows[reply][2:0:-1])


if __name__ == "__main__":
    unittest.main()
