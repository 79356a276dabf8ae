import random
import unittest

from helpers import ANY_VALUES, Checks
from clankernel.clans import Clans, beneath, clan
from clankernel.errors import NoTask
from clankernel.ways import met_by, next_stop, passes, straight, way, way_sort

HOUSE = Clans("clans 7\ntask 0 - border\ntask 1 0 border\ntask 2 0 none\ntask 4 1 border\ntask 5 1 none\ntask 6 4 none")
# One below the other.
TOWER = Clans("clans 6\ntask 0 - none\ntask 1 0 none\ntask 2 1 border\ntask 3 2 border\ntask 4 3 none\ntask 5 4 none")


def some_clans(seed):
    chance = random.Random(seed)
    lines = ["clans 9", "task 0 - none"]
    tasks = [0]
    for task in sorted(chance.sample(range(1, 9), chance.randrange(6))):
        lines.append(f"task {task} {chance.choice(tasks)} {chance.choice(('border', 'none'))}")
        tasks.append(task)
    return Clans("\n".join(lines))


def pairs(clans):
    return [(task, other) for task in clans.tasks for other in clans.tasks]


class WaysTest(unittest.TestCase, Checks):
    def test_straight(self):
        right = {(0, 1), (0, 2), (1, 2), (1, 4), (1, 5), (4, 5), (4, 6)}
        for task, other in pairs(HOUSE):
            told = task == other or (task, other) in right or (other, task) in right
            self.same(straight(HOUSE, task, other), told)

    def test_next_stop(self):
        for task, other, stop in ((6, 2, 4), (2, 6, 1), (0, 6, 1), (0, 4, 1), (1, 6, 4), (5, 6, 4), (6, 5, 4), (6, 0, 4), (4, 0, 1), (5, 2, 1),
                                  (4, 2, 1), (2, 4, 1)):
            self.same(next_stop(HOUSE, task, other), stop)
        for task, other in pairs(HOUSE):
            if straight(HOUSE, task, other):
                self.same(next_stop(HOUSE, task, other), other)

    def test_way(self):
        for task, other, stops in ((6, 2, (4, 1, 2)), (2, 6, (1, 4, 6)), (0, 6, (1, 4, 6)), (6, 0, (4, 1, 0)), (5, 6, (4, 6)), (5, 0, (1, 0)),
                                   (5, 5, (5,)), (4, 5, (5,)), (4, 6, (6,)), (6, 4, (4,)), (0, 0, (0,))):
            self.same(way(HOUSE, task, other), stops)
        self.same((way(TOWER, 0, 5), way(TOWER, 5, 0), way(TOWER, 1, 4)), ((1, 2, 3, 4, 5), (4, 3, 2, 1, 0), (2, 3, 4)))

    def test_way_sort(self):
        sorts = {(0, 0): "own", (6, 6): "own", (1, 2): "same", (2, 1): "same", (4, 5): "same", (0, 5): "inner", (0, 1): "inner", (2, 6): "inner",
                 (2, 4): "inner", (5, 6): "inner", (1, 4): "inner", (4, 6): "inner", (6, 4): "outer", (6, 5): "outer", (6, 2): "outer",
                 (4, 1): "outer", (4, 2): "outer", (1, 0): "outer", (5, 0): "outer"}
        for (task, other), sort in sorts.items():
            self.same(way_sort(HOUSE, task, other), sort)

    def test_passes(self):
        self.same(passes(HOUSE, 6, 2), ("passes", (4, 1, 2)))
        self.same(passes(HOUSE.bordered(1, False), 6, 2), ("barred", 1))
        self.same(passes(HOUSE.bordered(1, False), 2, 6), ("barred", 1))
        self.same(passes(HOUSE.bordered(1, False).bordered(4, False), 6, 2), ("barred", 4))
        self.same(passes(HOUSE.bordered(4, False), 2, 6), ("barred", 4))
        # Neither who sends nor the last stop needs one.
        none = HOUSE
        for task in none.tasks:
            none = none.bordered(task, False)
        for task, other in pairs(none):
            stops = way(none, task, other)
            self.same(passes(none, task, other), ("passes", (other,)) if stops == (other,) else ("barred", stops[0]))
        self.same(passes(TOWER, 1, 4), ("passes", (2, 3, 4)))
        self.same(passes(TOWER, 1, 5), ("barred", 4))
        self.same(passes(TOWER, 5, 0), ("barred", 4))
        self.same(passes(TOWER, 4, 0), ("barred", 1))

    def test_met_by(self):
        self.same(met_by(HOUSE, 4), ((0, 6), (1, 6), (2, 6), (5, 6), (6, 0), (6, 1), (6, 2), (6, 5)))
        self.same([met_by(HOUSE, task) for task in (0, 2, 5, 6)], [()] * 4)

    def test_errors(self):
        wrong = (-1, 3, 7, True, False, None, "0", (0,), [0])
        for call in (straight, next_stop, way, way_sort, passes):
            for task in wrong:
                self.fails(NoTask, task, call, HOUSE, task, None)
                self.fails(NoTask, task, call, HOUSE, 0, task)
        for value in ANY_VALUES + wrong:
            if not (type(value) is int and value in HOUSE.tasks):
                self.fails(NoTask, value, met_by, HOUSE, value)

    def test_of_all_pairs(self):
        sorts = set()
        for seed in range(80):
            clans = some_clans(seed)
            met = {task: [] for task in clans.tasks}
            for task, other in pairs(clans):
                stops = way(clans, task, other)
                self.one_way(clans, task, other, stops)
                sorts.add(way_sort(clans, task, other))
                for stop in stops[:-1]:
                    met[stop].append((task, other))
            for task in clans.tasks:
                self.same(met_by(clans, task), tuple(met[task]))
        self.assertEqual(sorts, {"own", "same", "inner", "outer"})

    def one_way(self, clans, task, other, stops):
        """Each step goes straight, no task comes twice, the way back has the same stops turned about."""
        self.assertEqual((stops[-1], len(set(stops))), (other, len(stops)))
        self.assertEqual(next_stop(clans, task, other), stops[0])
        self.assertEqual(straight(clans, task, other), stops == (other,))
        if task != other:
            self.assertNotIn(task, stops)
        self.assertEqual(way(clans, other, task)[:-1], stops[-2::-1])
        for at in range(len(stops)):
            self.assertTrue(straight(clans, ((task,) + stops)[at], stops[at]))
        barred = [stop for stop in stops[:-1] if not clans.has_border(stop)]
        self.assertEqual(passes(clans, task, other), ("barred", barred[0]) if barred else ("passes", stops))
        kin = clan(clans, task)
        if task == other:
            sort = "own"
        elif other in kin:
            sort = "same"
        else:
            sort = "inner" if any(other in beneath(clans, one) for one in kin) else "outer"
        self.assertEqual(way_sort(clans, task, other), sort)


if __name__ == "__main__":
    unittest.main()
