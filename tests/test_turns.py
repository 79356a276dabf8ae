import random
import unittest

from helpers import ANY_VALUES, Checks, is_int
from clankernel.errors import (
    BadPriority, BadThreads, BadTicks, BadTruth, BadTurns, CoreError, IsReady, NoCaller, NotReady, NotResting, NoThread,
    Same, Taken)
from clankernel.turns import Turns, who_runs

# Threads 0 to 6: 0 and 3 are ready, 1 waits for 0, 2 calls 3, 4 calls 2, 5 and 6 rest.
HEAD = ("manner slices", "thread 0 1 5 5", "thread 0 2 5 4", "thread 1 6 4 1", "thread 1 4 3 3", "thread 2 0 20 7",
        "thread 5 7 1 1", "thread 0 0 2 1")
RICH = "\n".join(HEAD + ("row 3 0", "waits 1 0", "calls 2 3", "calls 4 2"))
TABLE = "\n".join(("manner table 0 2 1 1", "at 2") + HEAD[1:] + ("row 3 0 6", "waits 1 0"))
WRONG_THREADS = (-1, 7, True, False, None, "0", (0,), [0])


def text(*lines):
    return "\n".join(HEAD + lines)


class TextTest(unittest.TestCase, Checks):
    def wrong(self, number, told):
        self.fails(BadTurns, number, Turns, told)

    def right(self, told):
        self.assertEqual(Turns(told).text, told)

    def test_properties_by_slices(self):
        turns = Turns(RICH)
        self.same(turns.text, RICH)
        self.same(turns.threads, ((0, 1, 5, 5), (0, 2, 5, 4), (1, 6, 4, 1), (1, 4, 3, 3), (2, 0, 20, 7), (5, 7, 1, 1), (0, 0, 2, 1)))
        self.same((turns.row, turns.waits, turns.calls), ((3, 0), ((1, 0),), ((2, 3), (4, 2))))
        self.same(turns.next, 3)

    def test_properties_by_table(self):
        turns = Turns(TABLE)
        self.same((turns.text, turns.row, turns.waits, turns.calls, turns.next), (TABLE, (3, 0, 6), ((1, 0),), (), 3))
        bare = Turns("manner slices\nthread 0 0 1 1\nrow")
        self.same((bare.threads, bare.row, bare.waits, bare.calls, bare.next), (((0, 0, 1, 1),), (), (), (), None))

    def test_equality(self):
        self.assertTrue(Turns(RICH) == Turns(RICH))
        self.assertFalse(Turns(RICH) != Turns(RICH))
        self.assertTrue(Turns(RICH) != Turns(TABLE))
        for value in (RICH, None, 3):
            self.assertFalse(Turns(RICH) == value)

    def test_no_string(self):
        for value in ANY_VALUES:
            if type(value) is not str:
                self.wrong(0, value)

    def test_manner(self):
        for line in ("", "manner", "manner ", "manner slices ", "manner slices 0 1", "Manner slices", "manner table", "manner table ",
                     "manner table 0", "manner table 0 1 2", "manner table 6 1", "manner table -1 1", "manner table 0 0",
                     "manner table 0 21", "manner table 00 1", "manner table 0 01", "manner table 0 a", "manner  table 0 1",
                     "manner table" + " 0 1" * 9, "manner tables 0 1", "manner 0 1", "slices", "row", "thread 0 0 1 1", "at 0"):
            self.wrong(1, line)
            self.wrong(1, line + "\nthread 0 0 1 1\nrow")
        self.right("manner table 0 1\nat 0\nthread 0 0 1 1\nrow")
        self.right("manner table" + " 5 20" * 8 + "\nat 159\nthread 0 0 1 1\nrow")

    def test_at(self):
        for line in ("", "at", "at 3", "at -1", "at 00", "at 0 0", "At 0", "at  0", "thread 0 0 1 1", "row"):
            self.wrong(2, "manner table 0 2 1 1\n" + line)
            self.wrong(2, "manner table 0 2 1 1\n" + line + "\nthread 0 0 1 1\nrow")
        self.wrong(2, "manner slices\nat 0\nthread 0 0 1 1\nrow")
        self.wrong(3, "manner table 0 2 1 1\nat 0\nat 0\nthread 0 0 1 1\nrow")
        self.wrong(2, "manner table" + " 5 20" * 8 + "\nat 160\nthread 0 0 1 1\nrow")

    def test_threads(self):
        for line in ("", "thread", "thread 0 0 1", "thread 0 0 1 1 1", "thread 6 0 1 1", "thread -1 0 1 1", "thread 0 8 1 1",
                     "thread 0 -1 1 1", "thread 0 0 0 0", "thread 0 0 21 1", "thread 0 0 5 0", "thread 0 0 5 6", "thread 0 0 5 05",
                     "thread 00 0 1 1", "thread 0 00 1 1", "thread 0 0 01 1", "thread 0 0 5 a", "Thread 0 0 1 1", "thread 0 0 1 1 ",
                     " thread 0 0 1 1", "thread  0 0 1 1", "row 0", "row", "waits 0 1", "calls 0 1", "at 0", "manner slices"):
            self.wrong(2, "manner slices\n" + line)
            if not line.startswith("row"):
                self.wrong(3, "manner slices\nthread 5 7 20 20\n" + line + "\nrow")
        self.right("manner slices\n" + "thread 5 7 20 20\n" * 8 + "row 7 6 5 4 3 2 1 0")
        self.wrong(10, "manner slices\n" + "thread 5 7 20 20\n" * 9 + "row")

    def test_row(self):
        for line in ("row 7", "row -1", "row 00", "row 0 0", "row 1 0 1", "row ", "row  0", "row 0 ", "row a", "Row 0", "rows 0", "row none"):
            self.wrong(9, text(line))
        self.wrong(10, text("row", "row"))
        self.wrong(10, text("row", "thread 0 0 1 1"))
        self.right(text("row"))
        self.right(text("row 6 0 5 1 4 2 3"))

    def test_links(self):
        for line in ("", "waits", "waits 1", "waits 1 0 0", "waits 7 0", "waits 1 7", "waits 1 1", "waits 01 0", "waits 1 00", "Waits 1 0",
                     "waits -1 0", "waits 1 -1", "waits 1  0", "waits 3 0", "calls 3 0", "calls 0 3", "calls 1 1", "calls 1", "calls 1 7",
                     "call 1 0", "owes 1 0", "row 0", "waits 1 0 "):
            self.wrong(10, text("row 3 0", line))
            self.wrong(11, text("row 3 0", "waits 1 3", line))
        for lines in (("waits 1 0", "waits 1 3"), ("waits 1 0", "calls 1 3"), ("calls 1 0", "waits 1 3"), ("waits 2 0", "waits 1 0"),
                      ("calls 2 0", "waits 1 0"), ("waits 2 0", "calls 1 0"), ("calls 1 0", "calls 2 0"), ("calls 1 2", "calls 4 2")):
            self.wrong(11, text("row 3 0", *lines))
        self.wrong(12, text("row 3 0", "calls 1 0", "waits 2 1", "calls 4 0"))
        for lines in (("waits 1 0", "waits 2 0", "calls 4 0"), ("calls 1 0", "waits 2 0"), ("calls 1 2", "calls 2 1"), ("waits 1 2", "waits 2 1"),
                      ("calls 1 2", "calls 2 4", "calls 4 1"), ("waits 1 6", "calls 5 6")):
            self.right(text("row 3 0", *lines))

    def test_missing_lines(self):
        self.wrong(2, "manner slices")
        self.wrong(2, "manner table 0 1")
        self.wrong(3, "manner table 0 1\nat 0")
        self.wrong(3, "manner slices\nthread 0 0 1 1")
        self.wrong(9, text())
        self.wrong(9, "manner slices" + "\nthread 0 0 1 1" * 7)


class NextTest(unittest.TestCase, Checks):
    def slices(self, priorities, *lines):
        return Turns("\n".join(["manner slices"] + [f"thread 0 {priority} 5 5" for priority in priorities] + list(lines))).next

    def table(self, told, threads, row, links=()):
        lines = ["manner table " + told, "at 0"] + [f"thread {task} {priority} 5 5" for task, priority in threads]
        return Turns("\n".join(lines + [row] + list(links))).next

    def test_the_greatest_first_as_the_row_stands(self):
        self.same(self.slices((3, 3, 3), "row 1 2 0"), 1)
        self.same(self.slices((3, 4, 4), "row 0 2 1"), 2)
        self.same(self.slices((3, 4, 5), "row 0 1"), 1)
        self.same(self.slices((3, 4, 5), "row"), None)
        self.same(self.slices((0,), "row 0"), 0)

    def test_lent(self):
        self.same(self.slices((1, 4, 6), "row 0 1", "waits 2 0"), 0)
        self.same(self.slices((1, 4, 6), "row 0 1", "calls 2 0"), 0)
        self.same(self.slices((1, 4, 4), "row 0 1", "waits 2 0"), 0)
        self.same(self.slices((1, 4, 4), "row 1 0", "waits 2 0"), 1)
        self.same(self.slices((1, 4, 3), "row 0 1", "waits 2 0"), 1)
        # A chain; one that hangs on who rests lends nothing to others.
        self.same(self.slices((1, 4, 0, 7), "row 0 1", "waits 2 0", "calls 3 2"), 0)
        self.same(self.slices((1, 4, 0, 7), "row 0 1", "waits 3 2"), 1)

    def test_a_ring(self):
        self.same(self.slices((1, 4, 6, 0), "row 0 1", "waits 2 3", "calls 3 2"), 1)
        # Threads 2, 3 and 4 hang on one another, and 2 on nobody else; of such a ring nobody is ready.
        self.same(self.slices((5, 4, 6, 0, 7), "row 0 1", "waits 2 3", "calls 3 4", "waits 4 2"), 0)

    def test_by_table(self):
        threads = ((0, 1), (0, 3), (1, 7), (0, 3))
        self.same(self.table("0 1", threads, "row 0 1 2 3"), 1)
        self.same(self.table("0 1", threads, "row 0 3 2 1"), 3)
        self.same(self.table("1 1 0 1", threads, "row 0 1 2 3"), 2)
        self.same(self.table("1 1 0 1", threads, "row 0 1 3"), None)
        self.same(self.table("5 1 0 1", threads, "row 0 1 2 3"), None)
        # Nothing is lent by table.
        self.same(self.table("0 1", threads, "row 0 1", ("waits 2 0",)), 1)


class WheelTest(unittest.TestCase, Checks):
    def test_a_slice_that_ends(self):
        turns = Turns("manner slices\nthread 0 3 2 2\nthread 0 3 3 1\nthread 0 3 1 1\nrow 0 1 2")
        one = turns.passed()
        self.same((one.row, one.threads[0]), ((0, 1, 2), (0, 3, 2, 1)))
        two = one.passed()
        self.same((two.row, two.threads[0]), ((1, 2, 0), (0, 3, 2, 2)))
        three = two.passed()
        self.same((three.row, three.threads[1]), ((2, 0, 1), (0, 3, 3, 3)))
        self.same((three.passed().row, three.passed().threads[2]), ((0, 1, 2), (0, 3, 1, 1)))
        self.same(who_runs(turns, 9), (0, 0, 1, 2, 0, 0, 1, 1, 1))

    def test_who_calls_pays(self):
        turns = Turns("manner slices\nthread 0 3 2 2\nthread 0 3 9 9\nthread 0 3 9 2\nthread 0 3 5 5\nrow 0 3\ncalls 1 0\ncalls 2 1")
        one = turns.passed()
        self.same([one.threads[at][3] for at in range(4)], [2, 9, 1, 5])
        two = one.passed()
        self.same(([two.threads[at][3] for at in range(4)], two.row), ([2, 9, 9, 5], (3, 0)))
        # One that waits pays nothing.
        waits = Turns("manner slices\nthread 0 3 2 2\nthread 0 3 9 9\nrow 0\nwaits 1 0").passed()
        self.same([waits.threads[at][3] for at in range(2)], [1, 9])

    def test_a_ring_of_calls(self):
        ring = "manner slices\nthread 0 3 2 1\nthread 0 3 9 9\nthread 0 3 4 4\nrow 2\ncalls 0 1\ncalls 1 0"
        self.same(Turns(ring).passed().threads, ((0, 3, 2, 1), (0, 3, 9, 9), (0, 3, 4, 3)))
        ring = ring.replace("row 2", "row").replace("calls 0 1", "calls 0 2") + "\ncalls 2 1"
        self.assertTrue(Turns(ring).passed() == Turns(ring))

    def test_nobody(self):
        turns = Turns(text("row"))
        self.assertTrue(turns.passed() == turns)
        table = Turns("manner table 0 2 1 1\nat 2\nthread 0 1 5 5\nrow 0")
        self.assertEqual(table.passed().text, "manner table 0 2 1 1\nat 0\nthread 0 1 5 5\nrow 0")

    def test_the_round_goes_about(self):
        now = Turns("manner table 0 2 1 1\nat 0\nthread 0 1 2 2\nthread 0 1 5 5\nthread 1 0 9 9\nrow 0 1 2")
        seen = []
        for _ in range(7):
            seen.append((now.text.split("\n")[1], now.next))
            now = now.passed()
        self.same(seen, [("at 0", 0), ("at 1", 0), ("at 2", 2), ("at 0", 1), ("at 1", 1), ("at 2", 2), ("at 0", 1)])

    def test_who_runs(self):
        for told in (RICH, TABLE, text("row"), TABLE.replace("row 3 0 6", "row 0 6")):
            turns = Turns(told)
            now, seen = turns, []
            for _ in range(400):
                seen.append(now.next)
                now = now.passed()
            for ticks in (0, 1, 2, 7, 399, 400):
                self.same(who_runs(turns, ticks), tuple(seen[:ticks]))
            self.assertEqual(turns.text, told)
        for ticks in ANY_VALUES + (-1, 401):
            if not is_int(ticks, 0, 400):
                self.fails(BadTicks, ticks, who_runs, Turns(RICH), ticks)


class DeedsTest(unittest.TestCase, Checks):
    def setUp(self):
        self.turns = Turns(RICH)

    def tearDown(self):
        self.assertEqual(self.turns.text, RICH)
        self.assertTrue(self.turns == Turns(RICH))

    def comes(self, later, *lines):
        self.assertEqual(later.text, text(*lines))
        self.assertTrue(Turns(later.text) == later)

    def test_ready(self):
        self.comes(self.turns.ready(5), "row 3 0 5", "waits 1 0", "calls 2 3", "calls 4 2")
        self.comes(self.turns.ready(1), "row 3 0 1", "calls 2 3", "calls 4 2")
        self.comes(self.turns.ready(2), "row 3 0 2", "waits 1 0", "calls 4 2")
        for thread in WRONG_THREADS:
            self.fails(NoThread, thread, self.turns.ready, thread)
        for thread in (0, 3):
            self.fails(IsReady, thread, self.turns.ready, thread)

    def test_rest(self):
        self.comes(self.turns.rest(3), "row 0", "waits 1 0", "calls 2 3", "calls 4 2")
        self.comes(self.turns.rest(3).rest(0), "row", "waits 1 0", "calls 2 3", "calls 4 2")
        for thread in WRONG_THREADS:
            self.fails(NoThread, thread, self.turns.rest, thread)
        for thread in (1, 2, 5):
            self.fails(NotReady, thread, self.turns.rest, thread)

    def test_wait(self):
        self.comes(self.turns.wait(0, 3), "row 3", "waits 0 3", "waits 1 0", "calls 2 3", "calls 4 2")
        for other in (1, 2, 5):
            self.comes(self.turns.wait(3, other), "row 0", "waits 1 0", "calls 2 3", f"waits 3 {other}", "calls 4 2")

    def test_call(self):
        self.comes(self.turns.call(3, 5), "row 5 0", "waits 1 0", "calls 2 3", "calls 3 5", "calls 4 2")
        self.comes(self.turns.call(0, 6), "row 3 6", "calls 0 6", "waits 1 0", "calls 2 3", "calls 4 2")
        for other in (3, 1, 2, 4):
            self.fails(NotResting, other, self.turns.call, 0, other)
        taken = Turns(text("row 3 0", "calls 1 5", "waits 2 6"))
        self.fails(Taken, 5, taken.call, 0, 5)
        self.assertEqual(taken.call(0, 6).row, (3, 6))

    def test_errors_of_pairs(self):
        for call in (self.turns.wait, self.turns.call):
            for thread in WRONG_THREADS:
                self.fails(NoThread, thread, call, thread, None)
                self.fails(NoThread, thread, call, 1, thread)
            for thread in (0, 1, 5):
                self.fails(Same, thread, call, thread, thread)
            for thread in (1, 2, 5):
                self.fails(NotReady, thread, call, thread, 0)

    def test_reply(self):
        self.comes(self.turns.reply(3, False), "row 2 0", "waits 1 0", "calls 4 2")
        self.comes(self.turns.reply(3, True), "row 2 0 3", "waits 1 0", "calls 4 2")
        for thread in WRONG_THREADS:
            self.fails(NoThread, thread, self.turns.reply, thread, None)
        for value in ANY_VALUES:
            if type(value) is not bool:
                self.fails(BadTruth, value, self.turns.reply, 1, value)
        for thread in (1, 2, 5):
            self.fails(NotReady, thread, self.turns.reply, thread, True)
        self.fails(NoCaller, 0, self.turns.reply, 0, False)

    def test_give_way(self):
        head = list(HEAD)
        later = self.turns.give_way(3)
        head[5] = "thread 2 0 20 20"
        self.assertEqual(later.text, "\n".join(head + ["row 0 3", "waits 1 0", "calls 2 3", "calls 4 2"]))
        own = Turns(text("row 6 1 0")).give_way(1)
        self.same((own.row, own.threads[1]), ((6, 0, 1), (0, 2, 5, 5)))
        for thread in WRONG_THREADS:
            self.fails(NoThread, thread, self.turns.give_way, thread)
        for thread in (1, 2, 5):
            self.fails(NotReady, thread, self.turns.give_way, thread)

    def test_with_priority(self):
        for thread in range(7):
            for priority in (0, 7):
                later = self.turns.with_priority(thread, priority)
                threads = [list(told) for told in self.turns.threads]
                threads[thread][1] = priority
                self.same((later.threads, later.row), (tuple(tuple(told) for told in threads), (3, 0)))
                self.same((later.waits, later.calls), (self.turns.waits, self.turns.calls))
        for thread in WRONG_THREADS:
            self.fails(NoThread, thread, self.turns.with_priority, thread, -1)
        for priority in (-1, 8, True, False, None, "0", (), [1]):
            self.fails(BadPriority, priority, self.turns.with_priority, 1, priority)

    def test_gone(self):
        self.comes(self.turns.gone(()), "row 3 0", "waits 1 0", "calls 2 3", "calls 4 2")
        self.comes(self.turns.gone((5, 6)), "row 3 0", "waits 1 0", "calls 2 3", "calls 4 2")
        self.comes(self.turns.gone((0,)), "row 3", "calls 2 3", "calls 4 2")
        self.comes(self.turns.gone((2,)), "row 3 0", "waits 1 0")
        self.comes(self.turns.gone((1, 3)), "row 0", "calls 4 2")
        self.comes(self.turns.gone((0, 1, 2, 3, 4, 5, 6)), "row")
        for lot in ((1, 0), (1, 1), (7,), (-1,), (True,), [1], None, 1, ("1",), ((1,),), {}, "1", (None,)):
            self.fails(BadThreads, lot, self.turns.gone, lot)

    def test_by_table_the_round_stays(self):
        table = Turns(TABLE)
        for later in (table.ready(5), table.rest(0), table.wait(0, 3), table.call(0, 5), table.give_way(0),
                      table.with_priority(0, 7), table.gone((0,)), table.ready(5).call(0, 2).reply(2, True)):
            self.assertEqual(later.text.split("\n")[:2], ["manner table 0 2 1 1", "at 2"])


class RandomTest(unittest.TestCase, Checks):
    """Deeds beside a model: lists of marks, one for each thread."""

    def test_random_deeds(self):
        seen = set()
        for seed in range(80):
            chance = random.Random(seed)
            many = chance.randrange(2, 9)
            threads = [[chance.randrange(3), chance.randrange(8), whole, chance.randrange(1, whole + 1)]
                       for whole in [chance.randrange(1, 6) for _ in range(many)]]
            manner = chance.choice(("slices", "slices", "table 0 2 1 3 2 1"))
            model = {"manner": manner, "at": 0, "threads": threads, "row": list(range(many)), "marks": [None] * many}
            now = Turns(self.text_of(model))
            for _ in range(80):
                deed = self.some_deed(chance, many)
                try:
                    later = getattr(now, deed[0])(*deed[1:])
                except CoreError as error:
                    seen.add(type(error).__name__)
                    continue
                self.on_model(model, deed, now)
                now = later
                self.assertEqual(now.text, self.text_of(model), deed)
                seen.add(deed[0])
        self.assertLessEqual({"ready", "rest", "wait", "call", "reply", "give_way", "with_priority", "gone", "passed",
                              "NotReady", "IsReady", "NotResting", "NoCaller", "Same"}, seen)

    def some_deed(self, chance, many):
        thread, other = chance.randrange(many), chance.randrange(many)
        return chance.choice((
            ("ready", thread), ("ready", thread), ("rest", thread), ("wait", thread, other), ("call", thread, other),
            ("call", thread, other), ("reply", thread, chance.random() < 0.5), ("give_way", thread),
            ("with_priority", thread, chance.randrange(8)), ("passed",), ("passed",),
            ("gone", (thread,) if chance.random() < 0.3 else ())))

    def text_of(self, model):
        lines = ["manner " + model["manner"]]
        if model["manner"] != "slices":
            lines.append(f"at {model['at']}")
        lines.extend("thread " + " ".join(map(str, told)) for told in model["threads"])
        lines.append(" ".join(["row"] + [str(told) for told in model["row"]]))
        lines.extend(f"{mark[0]} {at} {mark[1]}" for at, mark in enumerate(model["marks"]) if mark)
        return "\n".join(lines)

    def payer_in(self, model, thread):
        now = thread
        while ("calls", now) in model["marks"]:
            now = model["marks"].index(("calls", now))
            if now == thread:
                return thread
        return now

    def on_model(self, model, deed, ahead):
        row, marks, thread = model["row"], model["marks"], deed[1] if len(deed) > 1 else ahead.next
        if deed[0] == "ready":
            row.append(thread)
            marks[thread] = None
        elif deed[0] == "rest":
            row.remove(thread)
        elif deed[0] == "wait":
            row.remove(thread)
            marks[thread] = ("waits", deed[2])
        elif deed[0] == "call":
            row[row.index(thread)] = deed[2]
            marks[thread] = ("calls", deed[2])
        elif deed[0] == "reply":
            caller = marks.index(("calls", thread))
            row[row.index(thread)] = caller
            marks[caller] = None
            row.extend([thread] if deed[2] else [])
        elif deed[0] == "give_way":
            row.remove(thread)
            row.append(thread)
            payer = model["threads"][self.payer_in(model, thread)]
            payer[3] = payer[2]
        elif deed[0] == "with_priority":
            model["threads"][thread][1] = deed[2]
        elif deed[0] == "gone":
            for lost in deed[1]:
                marks[lost] = None
                row[:] = [told for told in row if told != lost]
                marks[:] = [None if mark and mark[1] == lost else mark for mark in marks]
        else:
            self.tick(model, thread)

    def tick(self, model, thread):
        model["at"] = (model["at"] + 1) % 6
        if thread is not None:
            self.assertEqual(thread, self.next_in(model))
            payer = model["threads"][self.payer_in(model, thread)]
            payer[3] -= 1
            if payer[3] == 0:
                payer[3] = payer[2]
                model["row"].remove(thread)
                model["row"].append(thread)
        else:
            self.assertIsNone(self.next_in(model, -1))

    def next_in(self, model, step=-1):
        row, threads = model["row"], model["threads"]
        if model["manner"] != "slices":
            task = (0, 0, 1, 1, 1, 2)[(model["at"] + step) % 6]
            row = [thread for thread in row if threads[thread][0] == task]
            ranks = [threads[thread][1] for thread in row]
        else:
            ranks = [max(threads[other][1] for other in range(len(threads)) if self.hangs_in(model, other, thread)) for thread in row]
        return row[ranks.index(max(ranks))] if row else None

    def hangs_in(self, model, thread, target):
        """Whether a thread leads to a target, mark by mark."""
        for _ in range(9):
            if thread == target:
                return True
            if model["marks"][thread] is None:
                return False
            thread = model["marks"][thread][1]
        return False


if __name__ == "__main__":
    unittest.main()
