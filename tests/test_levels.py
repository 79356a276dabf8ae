import itertools
import random
import unittest

from helpers import ANY_VALUES, Checks, alike, is_int
from clankernel.errors import BadHabits, NoThread, Ring
from clankernel.levels import levels, longest, shows_levels
from clankernel.waiting import Waits

# Thread 0 owns gate 3, thread 1 gates 0 and 1, thread 2 gate 2, thread 3 gate 4, thread 4 none.
FIVE = Waits("now 0\nthreads 1 1 1 1 1\ngates 1 1 2 0 3")


class LevelsTest(unittest.TestCase, Checks):
    def test_levels(self):
        self.same(levels(FIVE, ((), (), (), (), ())), ("levels", (0, 0, 0, 0, 0)))
        self.same(levels(FIVE, ((0,), (2,), (), (0, 1, 2), (3, 4))), ("levels", (2, 1, 0, 2, 3)))
        self.same(levels(habits=((), (), (3,), (3,), (2, 4)), waits=FIVE), ("levels", (0, 0, 1, 1, 2)))
        self.same(levels(Waits("now 9\nthreads 1\ngates"), ((),)), ("levels", (0,)))

    def test_rings(self):
        told = levels(FIVE, ((), (), (2,), (), ()))
        self.same(told, ("ring", (2,)))
        for habits, rings in ((((), (2,), (1,), (), ()), ((1, 2), (2, 1))), (((0,), (2,), (3,), (), (4,)), ((0, 1, 2), (1, 2, 0), (2, 0, 1)))):
            told = levels(FIVE, habits)
            self.assertIn(told, [("ring", ring) for ring in rings])
            for many in range(6):
                for row in itertools.permutations(range(5), many):
                    self.assertIs(shows_levels(FIVE, habits, ("ring", row)), row in rings)

    def test_threads_that_wait_or_are_gone_count_alike(self):
        world = Waits("now 0\nthreads 1 1 1 1 1\ngates 1 1 2 0 3\ngone 1\nreceives 2 any 0 ever")
        self.same(levels(world, ((0,), (2,), (), (), ())), ("levels", (2, 1, 0, 0, 0)))

    def test_longest(self):
        habits = ((0,), (2,), (), (0, 1, 2), (3, 4))
        self.same([longest(FIVE, habits, thread) for thread in (0, 1, 2, 3)], [(0, 1, 2), (1, 2), (2,), (3, 1, 2)])
        self.assertIn(longest(thread=4, habits=habits, waits=FIVE), ((4, 0, 1, 2), (4, 3, 1, 2)))

    def test_longest_with_a_ring(self):
        habits = ((), (2,), (1,), (), ())
        for thread in range(5):
            try:
                longest(FIVE, habits, thread)
                self.fail("no ring")
            except Ring as error:
                self.assertIs(shows_levels(FIVE, habits, ("ring", error.value)), True)

    def test_wrong_habits(self):
        wrong = ((), ((),) * 4, ((),) * 6, [()] * 5, ((0,), (), (), (), [0]), ((5,), (), (), (), ()), ((-1,), (), (), (), ()), ((0, 0), (), (), (), ()),
                 ((1, 0), (), (), (), ()), ((True,), (), (), (), ()), ((None,), (), (), (), ()), (0, (), (), (), ()))
        for value in ANY_VALUES + wrong:
            self.fails(BadHabits, value, levels, FIVE, value)
            self.fails(BadHabits, value, shows_levels, FIVE, value, ("levels", (0,) * 5))
            self.fails(BadHabits, value, longest, FIVE, value, 0)
            self.fails(NoThread, 5, longest, FIVE, value, 5)
        for value in ANY_VALUES + (-1,):
            if not is_int(value, 0, 4):
                self.fails(NoThread, value, longest, FIVE, None, value)
        self.fails(NoThread, 5, longest, FIVE, ((), (), (2,), (), ()), 5)

    def test_shows_levels(self):
        habits = ((0,), (2,), (), (0, 1, 2), (3, 4))
        self.assertIs(shows_levels(FIVE, habits, ("levels", (2, 1, 0, 2, 3))), True)
        for value in (("levels", (3, 1, 0, 2, 4)), ("levels", (2, 1, 0, 2)), ("levels", (2, True, 0, 2, 3)), ("levels", [2, 1, 0, 2, 3]), ["levels", (2, 1, 0, 2, 3)],
                      ("ring", ()), ("ring", (0, 1)), ("ring", (2, 1, 0, 2, 3)), ("levels", (2, 1, 0, 2, 3), 0), ("Levels", (2, 1, 0, 2, 3))):
            self.assertIs(shows_levels(FIVE, habits, value), False)
        ring = ((), (2,), (1,), (), ())
        for value in (("levels", (0, 0, 0, 0, 0)), ("ring", (1, 2, 1)), ("ring", (1, 2, 1, 2)), ("ring", (True, 2)), ("ring", [1, 2]), ("ring", (1,)), ("ring", (5, 6)), ("ring", (1, -3))):
            self.assertIs(shows_levels(FIVE, ring, value), False)
        self.assertIs(shows_levels(value=("ring", (2, 1)), habits=ring, waits=FIVE), True)
        for value in ANY_VALUES:
            for told in (habits, ring):
                self.assertIs(shows_levels(FIVE, told, value), False)
                self.assertIs(shows_levels(FIVE, told, ("ring", value)), told is ring and alike(value, (1, 2)))
                self.assertIs(shows_levels(FIVE, told, ("levels", value)), False)
                self.assertIs(shows_levels(FIVE, told, (value, (2, 1, 0, 2, 3))), False)

    def test_random_habits(self):
        rng = random.Random(4)
        kinds = set()
        for _ in range(400):
            many = rng.randint(1, 8)
            owners = [rng.randrange(many) for _ in range(rng.randint(0, 12))]
            world = Waits(f"now 0\nthreads {' '.join('1' * many)}\n{' '.join(['gates'] + [str(owner) for owner in owners])}")
            habits = tuple(tuple(sorted(rng.sample(range(len(owners)), rng.randint(0, min(2, len(owners)))))) if rng.random() < 0.6 else () for _ in range(many))
            kind, told = levels(world, habits)
            kinds.add(kind)
            self.assertIs(shows_levels(world, habits, (kind, told)), True)
            calls = [[owners[gate] for gate in habit] for habit in habits]
            if kind == "ring":
                self.assertTrue(all(told[(at + 1) % len(told)] in calls[told[at]] for at in range(len(told))))
                continue
            # Each number is the least: it is 0, or one more than that of one that it calls.
            for thread in range(many):
                self.assertEqual(told[thread], max([told[other] + 1 for other in calls[thread]], default=0))
                row = longest(world, habits, thread)
                self.assertEqual((row[0], len(row)), (thread, told[thread] + 1))
                self.assertTrue(all(row[at] in calls[row[at - 1]] for at in range(1, len(row))))
        self.assertEqual(kinds, {"levels", "ring"})


if __name__ == "__main__":
    unittest.main()
