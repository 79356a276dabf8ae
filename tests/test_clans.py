import random
import unittest

from helpers import ANY_VALUES, Checks
from clankernel.clans import Clans, beneath, clan, depth
from clankernel.errors import BadBorder, BadClans, CoreError, Full, NoTask, Root, Spent

HOUSE = "clans 7\ntask 0 - border\ntask 1 0 border\ntask 2 0 none\ntask 4 1 border\ntask 5 1 none\ntask 6 4 none"
SMALL = "clans 1\ntask 0 - none"
WRONG_TASKS = (-1, 3, 7, 999, 1000, True, False, None, "0", (0,), [0], "-")


class TextTest(unittest.TestCase, Checks):
    def wrong(self, number, text):
        self.fails(BadClans, number, Clans, text)

    def test_properties(self):
        house = Clans(HOUSE)
        self.same((house.text, house.fresh, house.tasks, len(house)), (HOUSE, 7, (0, 1, 2, 4, 5, 6), 6))
        self.same((Clans(SMALL).fresh, Clans(SMALL).tasks, len(Clans(SMALL))), (1, (0,), 1))
        self.same(Clans("clans 999\ntask 0 - none\ntask 998 0 border").tasks, (0, 998))

    def test_whether_a_value_is_in(self):
        house = Clans(HOUSE)
        for task in (0, 1, 2, 4, 5, 6):
            self.assertIs(task in house, True)
        for value in WRONG_TASKS + tuple(value for value in ANY_VALUES if not (type(value) is int and value in (0, 1))):
            self.assertIs(value in house, False)

    def test_equality(self):
        self.assertTrue(Clans(HOUSE) == Clans(HOUSE))
        self.assertFalse(Clans(HOUSE) != Clans(HOUSE))
        self.assertTrue(Clans(HOUSE) != Clans(SMALL))
        for value in (HOUSE, None, 6):
            self.assertFalse(Clans(HOUSE) == value)

    def test_no_string(self):
        for value in ANY_VALUES:
            if type(value) is not str:
                self.wrong(0, value)

    def test_first_line(self):
        for line in ("", "clans", "clans 0", "clans 1000", "clans -1", "clans 07", "clans 7 ", "clans 7 7", "Clans 7", "clan 7", " clans 7",
                     "clans  7", "clans a", "task 0 - none"):
            self.wrong(1, line)
            self.wrong(1, line + "\ntask 0 - none")

    def test_the_first_line_alone(self):
        self.wrong(2, "clans 1")
        self.wrong(2, "clans 999")
        self.wrong(2, "clans 1\n")

    def test_task_0_stands_first(self):
        for line in ("task 0 0 none", "task 1 0 none", "task 1 - none", "task 0 1 none", "task 0 none none", "task 0 none", "task 0 -",
                     "task 00 - none", "task 0 - none ", "task 0 - no", "task 0 - -", "task 0 - Border", "Task 0 - none", "task  0 - none"):
            self.wrong(2, "clans 7\n" + line)
            self.wrong(2, "clans 7\n" + line + "\ntask 0 - none")

    def test_further_tasks(self):
        for line in ("", "task 0 - none", "task 1 - none", "task 1 1 none", "task 1 2 none", "task 7 0 none", "task -1 0 none",
                     "task 01 0 none", "task 1 00 none", "task 1 0", "task 1 0 none 0", "task 1 0 gate", "task 1 0 ", "tasks 1 0 none",
                     "task 1 -1 none", "task 0 0 none", "clans 7", "task 5 3 none", "task a 0 none"):
            self.wrong(3, "clans 7\ntask 0 - none\n" + line)
            self.wrong(3, "clans 7\ntask 0 - none\n" + line + "\nwrong")
        for line in ("task 4 0 none", "task 3 0 none", "task 5 5 none", "task 5 6 none", "task 5 2 none", "task 5 - none"):
            self.wrong(4, "clans 7\ntask 0 - none\ntask 4 0 none\n" + line)
        self.wrong(8, HOUSE.replace("clans 7", "clans 8") + "\ntask 7 0 none")
        self.wrong(8, HOUSE + "\n")


class MethodsTest(unittest.TestCase, Checks):
    def setUp(self):
        self.house = Clans(HOUSE)

    def tearDown(self):
        self.assertEqual(self.house.text, HOUSE)
        self.assertTrue(self.house == Clans(HOUSE))

    def test_chief(self):
        self.same([self.house.chief(task) for task in self.house.tasks], [None, 0, 0, 1, 1, 4])

    def test_has_border(self):
        self.same([self.house.has_border(task) for task in self.house.tasks], [True, True, False, True, False, False])

    def test_no_task_ahead_of_all(self):
        for task in WRONG_TASKS:
            for call, rest in ((self.house.chief, ()), (self.house.has_border, ()), (self.house.made, (None,)), (self.house.killed, ()),
                               (self.house.bordered, (None,))):
                self.fails(NoTask, task, call, task, *rest)
            for function in (clan, beneath, depth):
                self.fails(NoTask, task, function, self.house, task)

    def test_made(self):
        small = Clans(SMALL)
        for border, word in ((True, "border"), (False, "none")):
            self.assertEqual(small.made(0, border).text, f"clans 2\ntask 0 - none\ntask 1 0 {word}")
        two = small.made(0, True).made(1, False)
        self.same((two.tasks, two.fresh, two.chief(2), two.has_border(2)), ((0, 1, 2), 3, 1, False))
        for value in ANY_VALUES:
            if type(value) is not bool:
                self.fails(BadBorder, value, self.house.made, 0, value)
        self.fails(Full, 6, self.house.made, 5, True)
        self.fails(Full, 6, Clans(HOUSE.replace("clans 7", "clans 999")).made, 5, True)
        spent = Clans("clans 999\ntask 0 - none")
        self.fails(Spent, 999, spent.made, 0, False)
        self.fails(BadBorder, 0, spent.made, 0, 0)
        last = Clans("clans 998\ntask 0 - none").made(0, False)
        self.same((last.tasks, last.fresh), ((0, 998), 999))

    def test_killed(self):
        self.same([self.house.killed(task).tasks for task in (1, 2, 4, 5, 6)],
                  [(0, 2), (0, 1, 4, 5, 6), (0, 1, 2, 5), (0, 1, 2, 4, 6), (0, 1, 2, 4, 5)])
        self.same(self.house.killed(1).text, "clans 7\ntask 0 - border\ntask 2 0 none")
        self.fails(Root, 0, self.house.killed, 0)
        self.fails(Root, 0, Clans(SMALL).killed, 0)

    def test_numbers_are_never_used_again(self):
        now = Clans(SMALL)
        for number in range(1, 30):
            now = now.made(0, False)
            self.same((now.tasks, now.fresh), ((0, number), number + 1))
            now = now.killed(number)
            self.same((now.tasks, now.fresh), ((0,), number + 1))

    def test_bordered(self):
        for task in self.house.tasks:
            for border in (True, False):
                later = self.house.bordered(task, border)
                self.same([later.has_border(other) for other in later.tasks],
                          [border if other == task else self.house.has_border(other) for other in self.house.tasks])
                self.same([later.chief(other) for other in later.tasks], [self.house.chief(other) for other in self.house.tasks])
                self.assertEqual(later.fresh, 7)
        for value in ANY_VALUES:
            if type(value) is not bool:
                self.fails(BadBorder, value, self.house.bordered, 0, value)


class FunctionsTest(unittest.TestCase, Checks):
    def test_told(self):
        house = Clans(HOUSE)
        self.same([clan(house, task) for task in house.tasks], [(0,), (1, 2), (1, 2), (4, 5), (4, 5), (6,)])
        self.same([beneath(house, task) for task in house.tasks], [(1, 2, 4, 5, 6), (4, 5, 6), (), (6,), (), ()])
        self.same([depth(house, task) for task in house.tasks], [0, 1, 1, 2, 2, 3])

    def test_random_clans(self):
        for seed in range(60):
            chance = random.Random(seed)
            now, chiefs, fresh = Clans(SMALL), {0: None}, 1
            for _ in range(40):
                task, border = chance.randrange(fresh + 1), chance.random() < 0.5
                try:
                    if chance.random() < 0.7:
                        now = now.made(task, border)
                        chiefs[fresh] = task
                        fresh += 1
                    else:
                        now = now.killed(task)
                        chiefs = {one: chief for one, chief in chiefs.items() if task not in self.above(chiefs, one)}
                except CoreError:
                    continue
                self.looks(now, chiefs, fresh)

    def above(self, chiefs, task):
        """A task, its chief, and so on."""
        return [] if task is None else [task] + self.above(chiefs, chiefs[task])

    def looks(self, now, chiefs, fresh):
        self.assertTrue(Clans(now.text) == now)
        self.same((now.tasks, now.fresh), (tuple(sorted(chiefs)), fresh))
        for task in chiefs:
            self.same(now.chief(task), chiefs[task])
            self.same(clan(now, task), tuple(one for one in sorted(chiefs) if chiefs[one] == chiefs[task]))
            self.same(beneath(now, task), tuple(one for one in sorted(chiefs) if task in self.above(chiefs, one)[1:]))
            self.same(depth(now, task), len(self.above(chiefs, task)) - 1)


if __name__ == "__main__":
    unittest.main()
