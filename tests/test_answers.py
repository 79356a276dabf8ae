import itertools
import random
import unittest

from helpers import ANY_VALUES, Checks, is_int
from clankernel.answers import answer, Loads, play, priorities, shows_answer, shows_priorities
from clankernel.errors import BadAsks, BadLoads, BadTicks, BadWithin, NoJob

THREE = Loads("job 5 7 2\njob 7 4 2\njob 20 1 3")
# Greater jobs take two of three ticks; the last job needs four.
BUSY = Loads("job 3 2 2\njob 9 0 4\njob 20 1 1")


def loads_of(jobs):
    return Loads("\n".join(f"job {every} {priority} {work}" for every, priority, work in jobs))


def some_loads(chance, most_every=12):
    numbers = chance.sample(range(8), chance.randrange(1, 5))
    return loads_of([(chance.randrange(1, most_every), number, chance.randrange(1, 4)) for number in numbers])


def some_asks(chance, loads, last):
    asks = []
    for job, (every, _, _) in enumerate(loads.jobs):
        tick = chance.randrange(4)
        while tick <= last and len(asks) < 100:
            asks.append((tick, job))
            tick += every + chance.choice((0, 0, 1, 3))
    return tuple(sorted(asks))


def times_by_hand(loads, asks, ticks):
    """Rows and answers once more: each tick the open asks, looked at one by one."""
    left = [loads.jobs[job][2] for _, job in asks]
    answers, rows = [None] * len(asks), []
    for now in range(ticks):
        waiting = [(-loads.jobs[job][1], tick, at) for at, (tick, job) in enumerate(asks) if tick <= now and left[at] > 0]
        rows.append(asks[min(waiting)[2]][1] if waiting else None)
        if waiting:
            at = min(waiting)[2]
            left[at] -= 1
            if left[at] == 0:
                answers[at] = now + 1 - asks[at][0]
    return tuple(rows), tuple(answers)


class TextTest(unittest.TestCase, Checks):
    def wrong(self, number, text):
        self.fails(BadLoads, number, Loads, text)

    def test_properties(self):
        self.same((THREE.text, THREE.jobs), ("job 5 7 2\njob 7 4 2\njob 20 1 3", ((5, 7, 2), (7, 4, 2), (20, 1, 3))))
        self.same(Loads("job 1 0 1").jobs, ((1, 0, 1),))
        self.assertEqual(len(Loads("\n".join(f"job 99 {at} 99" for at in range(2, 8))).jobs), 6)

    def test_equality(self):
        self.assertTrue(Loads(THREE.text) == THREE)
        self.assertFalse(Loads(THREE.text) != THREE)
        self.assertTrue(BUSY != THREE)
        for value in (THREE.text, THREE.jobs, None):
            self.assertFalse(THREE == value)

    def test_no_string(self):
        for value in ANY_VALUES:
            if type(value) is not str:
                self.wrong(0, value)

    def test_wrong_lines(self):
        for line in ("", "job", "job 1 0", "job 1 0 1 1", "job 0 0 1", "job 100 0 1", "job 1 8 1", "job 1 -1 1", "job 1 0 0", "job 1 0 100",
                     "job 01 0 1", "job 1 00 1", "job 1 0 01", "Job 1 0 1", "jobs 1 0 1", "job  1 0 1", "job 1 0 1 ", "job a 0 1", "none"):
            self.wrong(1, line)
            self.wrong(1, line + "\njob 1 0 1")
            self.wrong(2, "job 1 3 1\n" + line)
        self.wrong(2, "job 1 3 1\njob 2 3 2")
        self.wrong(3, "job 1 3 1\njob 2 4 2\njob 2 3 2\nwrong")
        self.wrong(7, "\n".join(f"job 9 {at} 9" for at in range(7)))
        self.wrong(7, "\n".join(f"job 9 {at} 9" for at in range(6)) + "\n")


class PlayTest(unittest.TestCase, Checks):
    def test_greater_ones_first(self):
        self.same(play(THREE, ((0, 2), (1, 1), (2, 0)), 8), ((2, 1, 0, 0, 1, 2, 2, None), (7, 4, 2)))
        self.same(play(THREE, (), 3), ((None, None, None), ()))
        self.same(play(THREE, ((2, 0),), 0), ((), (None,)))

    def test_elder_asks_of_one_job_first(self):
        slow = loads_of([(2, 0, 3)])
        self.same(play(slow, ((0, 0), (2, 0), (4, 0)), 10), ((0,) * 9 + (None,), (3, 4, 5)))
        self.same(play(slow, ((0, 0), (2, 0), (4, 0)), 5), ((0,) * 5, (3, None, None)))

    def test_not_done_behind_them(self):
        asks = ((0, 0), (0, 1), (0, 2))
        self.same(play(THREE, asks, 1)[1], (None, None, None))
        self.same(play(THREE, asks, 2)[1], (2, None, None))
        self.same(play(THREE, asks, 4)[1], (2, 4, None))
        self.same(play(THREE, ((400, 0),), 400), ((None,) * 400, (None,)))

    def test_beside_a_play_by_hand(self):
        for seed in range(150):
            chance = random.Random(seed)
            loads = some_loads(chance)
            asks = some_asks(chance, loads, 30)
            for ticks in (0, 1, 20, 60):
                self.same(play(loads, asks, ticks), times_by_hand(loads, asks, ticks))

    def test_errors(self):
        wrong = [((0, 1), (0, 0)), ((0, 0), (0, 0)), ((0, 0), (4, 0)), ((0, 0), (1, 1), (4, 0)), ((0, 1), (1, 0), (6, 1)), ((401, 0),),
                 ((-1, 0),), ((0, 3),), ((0, -1),), ((True, 0),), ((0, True),), ((0, 0, 0),), ((0,),), ([0, 0],), [(0, 0)], (0, 0),
                 ((0, None),), ((0, 0), None), ((5, 0), (0, 0))]
        for asks in wrong:
            self.fails(BadAsks, asks, play, THREE, asks, -1)
        for value in ANY_VALUES:
            if value not in ((), ((0, 1),)):
                self.fails(BadAsks, value, play, THREE, value, 401)
        for ticks in ANY_VALUES + (-1, 401):
            if not is_int(ticks, 0, 400):
                self.fails(BadTicks, ticks, play, THREE, (), ticks)
        self.assertEqual(play(THREE, ((0, 0), (5, 0), (10, 0)), 400)[1], (2, 2, 2))

    def test_six_hundred_asks(self):
        two = loads_of([(1, 1, 1), (1, 0, 1)])
        asks = tuple((tick, job) for tick in range(301) for job in (0, 1))
        self.same(play(two, asks[:600], 400)[1][:4], (1, 302 - 1, 1, 302 - 1))
        self.fails(BadAsks, asks[:601], play, two, asks[:601], 0)


def least_number(loads, job, others):
    """The least number of ticks of section 22, tried one by one; None beyond EVERY."""
    every, _, work = loads.jobs[job]
    for number in range(1, every + 1):
        if number == work + sum(loads.jobs[at][2] * -(-number // loads.jobs[at][0]) for at in others):
            return number
    return None


def greater(loads, job):
    return [other for other in range(len(loads.jobs)) if loads.jobs[other][1] > loads.jobs[job][1]]


class AnswerTest(unittest.TestCase, Checks):
    def test_within(self):
        self.same([answer(THREE, job)[:2] for job in range(3)], [("within", 2), ("within", 4), ("within", 13)])
        self.same(answer(loads_of([(9, 0, 9)]), 0)[:2], ("within", 9))

    def test_late(self):
        self.same([answer(BUSY, job)[0] for job in range(3)], ["within", "late", "within"])
        self.same(answer(loads_of([(9, 0, 10)]), 0)[0], "late")
        self.same(answer(loads_of([(1, 7, 1), (99, 0, 1)]), 1)[0], "late")
        self.same(answer(loads_of([(1, 7, 99), (99, 0, 1)]), 1)[0], "late")

    def test_errors(self):
        for job in (-1, 3, True, False, None, "0", (0,), [0]):
            self.fails(NoJob, job, answer, THREE, job)
            self.fails(NoJob, job, shows_answer, THREE, job, None)

    def test_beside_the_least_number(self):
        seen = set()
        for seed in range(300):
            chance = random.Random(seed)
            loads = some_loads(chance, chance.choice((12, 99)))
            for job in range(len(loads.jobs)):
                told = answer(loads, job)
                number = least_number(loads, job, greater(loads, job))
                seen.add(told[0])
                asks = told[-1]
                times = [time for (_, asked), time in zip(asks, times_by_hand(loads, asks, 400)[1]) if asked == job]
                if number is None:
                    self.assertEqual((told[0], len(told)), ("late", 2))
                    self.assertTrue(any(time is None or time > loads.jobs[job][0] for time in times))
                else:
                    self.same(told[:2], ("within", number))
                    self.assertIn(number, times)
                    self.assertEqual(len(told), 3)
                self.assertIs(shows_answer(loads, job, told), True)
        self.assertEqual(seen, {"within", "late"})

    def test_full_loads(self):
        for every, work in ((1, 1), (1, 99), (99, 99), (2, 1), (99, 15)):
            full = loads_of([(every, at, work) for at in range(6)])
            for job in range(6):
                told = answer(full, job)
                self.assertLessEqual(len(told[-1]), 600)
                self.assertIs(shows_answer(full, job, told), True)
                self.assertEqual(told[0] == "late", least_number(full, job, greater(full, job)) is None)

    def test_none_is_longer(self):
        for seed in range(100):
            chance = random.Random(seed)
            loads = some_loads(chance)
            asks = some_asks(chance, loads, 60)
            answers = times_by_hand(loads, asks, 400)[1]
            for (_, job), time in zip(asks, answers):
                told = answer(loads, job)
                if told[0] == "within":
                    self.assertLessEqual(time, told[1])

    def test_shown(self):
        asks = ((0, 0), (0, 1), (0, 2), (5, 0), (7, 1), (10, 0))
        for right in (("within", 13, asks), ("within", 13, tuple((tick + 50, job) for tick, job in asks)),
                      ("within", 13, tuple((tick + 390, job) for tick, job in asks)), answer(THREE, 2)):
            self.assertIs(shows_answer(THREE, 2, right), True)
        for value in (("within", 12, asks), ("within", 14, asks), ("within", 13, asks[:5]), ("within", 13, asks[:2]), ("within", 13, ()),
                      ("within", 13, list(asks)), ["within", 13, asks], ("within", True, asks), ("within", "13", asks), ("within", 13),
                      ("within", 13, asks, 0), ("late", asks), ("late", ()), ("late", 13, asks), ("Within", 13, asks), (None, 13, asks),
                      ("within", 13, asks + ((9, 2),)), ("within", 13, asks + ((12, 2),)), ("within", None, asks), ("within", 3, ((0, 2),))):
            self.assertIs(shows_answer(THREE, 2, value), False, value)
        for value in ANY_VALUES:
            for made in (value, ("within", value, asks), ("within", 13, value), ("late", value), (value, 13, asks)):
                self.assertIs(shows_answer(THREE, 2, made), False)
        one = loads_of([(1, 0, 1)])
        self.assertIs(shows_answer(one, 0, ("within", 1, ((0, 0),))), True)
        self.assertIs(shows_answer(one, 0, ("within", True, ((0, 0),))), False)
        self.assertIs(shows_answer(one, 0, ("within", 1, ((False, False),))), False)

    def test_shown_late(self):
        self.assertIs(shows_answer(BUSY, 1, ("late", ((0, 0), (0, 1), (0, 2), (3, 0), (6, 0)))), True)
        self.assertIs(shows_answer(BUSY, 1, ("late", ((0, 0), (0, 1), (0, 2), (3, 0)))), False)
        self.assertIs(shows_answer(BUSY, 1, ("late", ((391, 1), (391, 2), (391, 0), (394, 0), (397, 0)))), False)
        self.assertIs(shows_answer(BUSY, 1, ("late", ((391, 0), (391, 1), (391, 2), (394, 0), (397, 0), (400, 0)))), True)
        late = ((0, 0), (0, 1), (0, 2), (3, 0), (6, 0))
        for value in (("within", late), ("Late", late), (None, late), ("late", late, 0), ["late", late], ("late", list(late)), ("late",)):
            self.assertIs(shows_answer(BUSY, 1, value), False)
        for time in (9, 10, None):
            self.assertIs(shows_answer(BUSY, 1, ("within", time, ((0, 0), (0, 1), (0, 2), (3, 0), (6, 0)))), False)
        # Of the very job; and one that waits for its own elder ask.
        self.assertIs(shows_answer(BUSY, 0, ("late", ((0, 0), (0, 1), (0, 2), (3, 0), (6, 0)))), False)
        slow = loads_of([(2, 0, 3)])
        self.assertIs(shows_answer(slow, 0, ("late", ((0, 0),))), True)
        self.assertIs(shows_answer(slow, 0, ("within", 3, ((0, 0),))), False)

    def test_asks_that_are_filled_far_away(self):
        long = loads_of([(99, 1, 99), (99, 0, 99)])
        asks = tuple(sorted([(tick, job) for tick in range(0, 400, 99) for job in (0, 1)]))
        self.assertIs(shows_answer(long, 1, ("late", asks)), True)
        self.assertIs(shows_answer(long, 0, ("late", asks)), False)
        self.assertIs(shows_answer(long, 0, ("within", 99, asks)), True)
        last = loads_of([(9, 0, 1), (9, 1, 1)])
        self.assertIs(shows_answer(last, 0, ("within", 2, ((400, 0), (400, 1)))), True)
        self.assertIs(shows_answer(last, 1, ("within", 1, ((0, 0), (400, 1)))), True)


class PrioritiesTest(unittest.TestCase, Checks):
    def test_told(self):
        self.same(priorities(Loads("job 4 1 2\njob 4 0 3"), (4, 4)), ("none", (0, 1)))
        word, numbers = priorities(THREE, (2, 4, 13))
        self.assertEqual((word, sorted(numbers, reverse=True)), ("priorities", list(numbers)))
        self.same(priorities(loads_of([(5, 3, 6)]), (5,)), ("none", (0,)))

    def test_the_priorities_of_the_loads_do_not_matter(self):
        turned = Loads("job 5 0 2\njob 7 1 2\njob 20 7 3")
        self.same(priorities(turned, (2, 4, 13)), priorities(THREE, (2, 4, 13)))
        self.assertIs(shows_priorities(turned, (2, 4, 13), ("priorities", (2, 1, 0))), True)

    def test_errors(self):
        wrong = [(1, 1), (1, 1, 1, 1), [1, 1, 1], (0, 1, 1), (6, 1, 1), (1, 8, 1), (1, 1, 21), (1, 1, True), (1, None, 1), (1, 1, "1")]
        for within in wrong + list(ANY_VALUES):
            self.fails(BadWithin, within, priorities, THREE, within)
            self.fails(BadWithin, within, shows_priorities, THREE, within, None)

    def test_just_one_of_both(self):
        seen = set()
        for seed in range(200):
            chance = random.Random(seed)
            loads = some_loads(chance)
            within = tuple(chance.randrange(max(1, every // 2), every + 1) for every, _, _ in loads.jobs)
            many = len(loads.jobs)
            orders = [order for order in itertools.permutations(range(many)) if self.holds(loads, within, order)]
            told = priorities(loads, within)
            seen.add(told[0])
            self.assertEqual(told[0] == "priorities", bool(orders), (loads.text, within))
            self.assertIs(shows_priorities(loads, within, told), True)
            for order in itertools.permutations(range(many)):
                self.assertIs(shows_priorities(loads, within, ("priorities", order)), order in orders)
            lots = [lot for size in range(1, many + 1) for lot in itertools.combinations(range(many), size)]
            stuck = [lot for lot in lots if not any(self.in_time(loads, within, job, [at for at in lot if at != job]) for job in lot)]
            self.assertEqual(bool(stuck), not orders)
            for lot in lots:
                self.assertIs(shows_priorities(loads, within, ("none", lot)), lot in stuck)
        self.assertEqual(seen, {"priorities", "none"})

    def in_time(self, loads, within, job, others):
        number = least_number(loads, job, others)
        return number is not None and number <= within[job]

    def holds(self, loads, within, order):
        return all(self.in_time(loads, within, job, [at for at in range(len(order)) if order[at] > order[job]])
                   for job in range(len(order)))

    def test_shown(self):
        within = (5, 7, 20)
        for numbers in ((2, 1, 0), (7, 5, 3), (7, 6, 0)):
            self.assertIs(shows_priorities(THREE, within, ("priorities", numbers)), True)
        for value in (("priorities", (2, 1)), ("priorities", (3, 2, 1, 0)), ("priorities", (8, 1, 0)), ("priorities", (2, 1, -1)),
                      ("priorities", (2, 1, 1)), ("priorities", (2, True, 0)), ("priorities", [2, 1, 0]), ["priorities", (2, 1, 0)],
                      ("priorities", (2, 1, 0), 0), ("priorities",), ("none", ()), ("none", (0, 1, 2)), ("Priorities", (2, 1, 0)),
                      (None, (2, 1, 0)), ("priorities", (2, None, 0)), ("priorities", ("2", 1, 0))):
            self.assertIs(shows_priorities(THREE, within, value), False, value)
        bad = Loads("job 4 1 2\njob 4 0 3")
        self.assertIs(shows_priorities(bad, (4, 4), ("none", (0, 1))), True)
        for value in (("none", (1, 0)), ("none", (0,)), ("none", (1,)), ("none", ()), ("none", (0, 1, 1)), ("none", (0, 2)),
                      ("none", (-1, 0)), ("None", (0, 1)), ("lot", (0, 1)), (None, (0, 1)), ("none", (False, 1)), ("none", (0, True)), ("none", [0, 1]), ["none", (0, 1)], ("none", (0, 1), 0),
                      ("none",), ("priorities", (0, 1)), ("priorities", (1, 0)), ("none", (0, "1")), ("none", 0), ("none", ((0,), 1))):
            self.assertIs(shows_priorities(bad, (4, 4), value), False, value)
        for value in ANY_VALUES:
            for made in (value, ("priorities", value), ("none", value), (value, (0, 1))):
                self.assertIs(shows_priorities(THREE, within, made), False)
        self.assertIs(shows_priorities(loads_of([(5, 3, 6), (9, 1, 1)]), (5, 9), ("none", (0,))), True)


if __name__ == "__main__":
    unittest.main()
