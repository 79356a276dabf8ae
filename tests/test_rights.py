import random
import unittest

from helpers import ANY_VALUES, Checks
from clankernel.errors import (
    BadBadge, BadLetters, BadLot, BadRights, Badged, Empty, Full, Held, NoGate, NoPlace, NoTask, NoThing, NotLet, Spent)
from clankernel.rights import Rights

HEAD = "tasks 3\ngate 1\ngate 2\nnext 20"
FIRST = "right 0 0 0 g0 sg - -"
WRONG_TASKS = (-1, 3, True, False, None, "1", (1,), [1])
WRONG_PLACES = (-1, 16, True, False, None, "1", (1,), [1])
WRONG_THINGS = ("g2", "t3", "g", "t", "", "g01", "g-1", "G0", "x0", "g0 ", "0", 0, None, True, ("g0",), ["g0"], {"g0": 1})
WRONG_LETTERS = ("", "g", "gs", "ss", "sgs", "c", "cg", "S", 0, None, True, ("s",), ["s"])
WRONG_BADGES = (-1, 1000, True, False, "7", (7,), [7])


def text(*lines):
    return "\n".join((HEAD,) + lines)


def rich():
    """Rights with trees of three steps: 0 to gate 0, with 2 and 3 beneath, 4 beneath 3; 1 to gate 1; 5 to task 2."""
    return Rights(text(FIRST, "right 1 1 0 g1 sg - -", "right 2 0 1 g0 sg 7 0", "right 3 1 1 g0 sg - 0",
                       "right 4 2 5 g0 s - 3", "right 5 0 2 t2 cg - -", "right 6 1 2 t2 c - 5"))


class TextTest(unittest.TestCase, Checks):
    def wrong(self, number, told):
        self.fails(BadRights, number, Rights, told)

    def test_properties(self):
        rights = rich()
        self.same((rights.tasks, rights.gates, rights.next), (3, (1, 2), 20))
        self.same(rights.rows[2], (2, 0, 1, "g0", "sg", 7, 0))
        self.same(rights.rows[4], (4, 2, 5, "g0", "s", None, 3))
        self.same(rights.rows[5], (5, 0, 2, "t2", "cg", None, None))
        bare = Rights("tasks 1\nnext 0")
        self.same((bare.tasks, bare.gates, bare.next, bare.rows, bare.text), (1, (), 0, (), "tasks 1\nnext 0"))
        full = Rights("tasks 6\n" + "gate 5\n" * 12 + "next 9999\nright 9998 5 15 g11 s 999 -")
        self.same((full.gates, full.rows), ((5,) * 12, ((9998, 5, 15, "g11", "s", 999, None),)))

    def test_equality(self):
        self.assertTrue(rich() == rich())
        self.assertFalse(rich() != rich())
        self.assertTrue(rich() != Rights(HEAD))
        for value in (rich().text, rich().rows, None, 0):
            self.assertFalse(rich() == value)

    def test_no_string(self):
        for value in ANY_VALUES:
            if type(value) is not str:
                self.wrong(0, value)

    def test_first_line(self):
        for line in ("", "tasks", "tasks 0", "tasks 7", "tasks 01", "tasks 3 ", " tasks 3", "tasks 3 3", "task 3",
                     "gate 0", "next 0", "tasks -1"):
            self.wrong(1, line)
            self.wrong(1, line + "\nnext 0")

    def test_missing_lines(self):
        self.wrong(2, "tasks 3")
        self.wrong(4, "tasks 3\ngate 0\ngate 2")
        self.wrong(14, "tasks 3" + "\ngate 0" * 12)

    def test_gates_and_next(self):
        for line in ("gate", "gate 3", "gate -1", "gate 00", "gate 0 0", "gates 0", "", "next", "next 10000", "next 01",
                     "next -1", "next 1 1", "tasks 3", FIRST):
            self.wrong(2, "tasks 3\n" + line)
            self.wrong(3, "tasks 3\ngate 0\n" + line + "\nnext 0")
        self.wrong(14, "tasks 3" + "\ngate 0" * 13 + "\nnext 0")
        self.wrong(3, "tasks 3\nnext 0\ngate 0")
        self.wrong(3, "tasks 3\nnext 0\nnext 0")
        self.wrong(3, "tasks 3\nnext 0\n")

    def test_forms_of_rights(self):
        for line in ("", "right", "right 0 0 0 g0 sg -", "right 0 0 0 g0 sg - - -", "Right 0 0 0 g0 sg - -",
                     "right 00 0 0 g0 sg - -", "right -1 0 0 g0 sg - -", "right 20 0 0 g0 sg - -",
                     "right 0 3 0 g0 sg - -", "right 0 -1 0 g0 sg - -", "right 0 00 0 g0 sg - -", "right 0 0 16 g0 sg - -",
                     "right 0 0 01 g0 sg - -", "right 0 0 0 g2 sg - -", "right 0 0 0 t3 cg - -", "right 0 0 0 g00 sg - -",
                     "right 0 0 0 x0 sg - -", "right 0 0 0 g sg - -", "right 0 0 0 g0 g - -", "right 0 0 0 g0 gs - -",
                     "right 0 0 0 g0 c - -", "right 0 0 0 g0 cg - -", "right 0 0 0 t0 sg - -", "right 0 0 0 t0 s - -",
                     "right 0 0 0 g0 - - -", "right 0 0 0 g0 sg 1000 -", "right 0 0 0 g0 sg -1 -", "right 0 0 0 g0 sg 07 -",
                     "right 0 0 0 t0 cg 7 -", "right 0 0 0 g0 sg none -", "right 0 0 0 g0 sg - 0", "right 0 0 0 g0 sg - 00",
                     "right 0 0 0 g0 sg - none", "right 0 0 0 g0 sg - - ", " right 0 0 0 g0 sg - -",
                     "right  0 0 0 g0 sg - -", "right 0 0 0 g0 sg - 5"):
            self.wrong(5, text(line))
            self.wrong(5, text(line, "wrong"))
        self.wrong(6, text(FIRST, ""))

    def test_numbers_ascend_and_places_are_free(self):
        self.wrong(6, text("right 4 0 0 g0 sg - -", "right 4 0 1 g0 sg - -"))
        self.wrong(6, text("right 4 0 0 g0 sg - -", "right 3 0 1 g0 sg - -"))
        self.wrong(6, text("right 4 0 0 g0 sg - -", "right 5 0 0 g1 sg - -"))
        self.wrong(7, text("right 4 0 0 g0 sg - -", "right 6 0 1 g0 sg - -", "right 5 0 2 g0 sg - -"))
        self.wrong(7, text("right 4 0 0 g0 sg - -", "right 6 0 1 g0 sg - -", "right 7 0 0 g0 sg - -"))
        self.wrong(5, "tasks 3\ngate 1\ngate 2\nnext 4\nright 4 0 0 g0 sg - -")
        self.assertEqual(len(Rights(text("right 9 0 0 g0 sg - -", "right 10 1 0 g0 sg - -")).rows), 2)

    def test_parents(self):
        for line in ("right 1 0 1 g0 sg - 1", "right 1 0 1 g0 sg - 2", "right 1 0 1 g1 s - 0", "right 1 0 1 t0 c - 0"):
            self.wrong(6, text(FIRST, line))
        self.wrong(6, text("right 0 0 0 g0 s - -", "right 1 0 1 g0 sg - 0"))
        self.wrong(6, text("right 0 0 0 t1 c - -", "right 1 0 1 t1 cg - 0"))
        self.wrong(6, text("right 0 0 0 g0 sg 7 -", "right 1 0 1 g0 sg - 0"))
        self.wrong(6, text("right 0 0 0 g0 sg 7 -", "right 1 0 1 g0 sg 8 0"))
        self.wrong(6, text("right 0 0 0 g0 sg 0 -", "right 1 0 1 g0 sg - 0"))
        for lines in (("right 0 0 0 g0 sg 7 -", "right 1 0 1 g0 sg 7 0"), ("right 0 0 0 g0 sg - -", "right 1 0 1 g0 s 8 0"),
                      ("right 0 0 0 t1 cg - -", "right 1 0 1 t1 c - 0"), ("right 0 0 0 g0 s - -", "right 1 0 1 g0 s - 0")):
            self.assertEqual(Rights(text(*lines)).rows[1][6], 0)


class DeedsTest(unittest.TestCase, Checks):
    def setUp(self):
        self.rights = rich()

    def tearDown(self):
        self.assertEqual(self.rights.text, rich().text)
        self.assertEqual(self.rights.rows, rich().rows)

    def came(self, later, row):
        self.same(later.rows, self.rights.rows + (row,))
        self.same((later.next, later.gates, later.tasks), (21, (1, 2), 3))

    def test_first(self):
        self.came(self.rights.first(2, 15, "g1"), (20, 2, 15, "g1", "sg", None, None))
        self.came(self.rights.first(0, 3, "t0"), (20, 0, 3, "t0", "cg", None, None))
        call = self.rights.first
        for task in WRONG_TASKS:
            self.fails(NoTask, task, call, task, None, None)
        for place in WRONG_PLACES:
            self.fails(NoPlace, place, call, 0, place, None)
        for thing in WRONG_THINGS:
            self.fails(NoThing, thing, call, 0, 0, thing)
        self.fails(Held, 0, call, 0, 0, "g0")
        self.fails(Held, 5, call, 2, 5, "t0")

    def test_with_gate(self):
        later = self.rights.with_gate(0)
        self.same((later.gates, later.rows, later.next), ((1, 2, 0), self.rights.rows, 20))
        for task in WRONG_TASKS:
            self.fails(NoTask, task, self.rights.with_gate, task)
        full = Rights("tasks 3" + "\ngate 0" * 12 + "\nnext 9999")
        self.fails(Full, 12, full.with_gate, 0)
        self.fails(NoTask, 3, full.with_gate, 3)
        self.assertEqual(len(Rights("tasks 3" + "\ngate 0" * 11 + "\nnext 9999").with_gate(2).gates), 12)

    def errors_within(self, call):
        """The errors of a deed within a table, up to Held; call takes task, place, to."""
        for task in WRONG_TASKS:
            self.fails(NoTask, task, call, task, None, None)
        for place in WRONG_PLACES:
            self.fails(NoPlace, place, call, 0, place, None)
            self.fails(NoPlace, place, call, 0, 9, place)
        self.fails(Empty, 9, call, 0, 9, 0)
        self.fails(Held, 1, call, 0, 0, 1)
        self.fails(Held, 0, call, 0, 0, 0)

    def test_copied(self):
        self.came(self.rights.copied(0, 0, 9, "sg"), (20, 0, 9, "g0", "sg", None, 0))
        self.came(self.rights.copied(0, 1, 9, "s"), (20, 0, 9, "g0", "s", 7, 2))
        self.came(self.rights.copied(2, 5, 0, "s"), (20, 2, 0, "g0", "s", None, 4))
        self.came(self.rights.copied(0, 2, 15, "c"), (20, 0, 15, "t2", "c", None, 5))
        self.errors_within(lambda task, place, to: self.rights.copied(task, place, to, None))
        for letters in WRONG_LETTERS:
            self.fails(BadLetters, letters, self.rights.copied, 0, 0, 9, letters)
        for letters in ("s", "sg", "g", "gc", "", None):
            self.fails(BadLetters, letters, self.rights.copied, 0, 2, 9, letters)
        self.fails(BadLetters, "sg", self.rights.copied, 2, 5, 0, "sg")
        self.fails(BadLetters, "cg", self.rights.copied, 1, 2, 0 + 9, "cg")

    def test_minted(self):
        self.came(self.rights.minted(0, 0, 9, 0), (20, 0, 9, "g0", "sg", 0, 0))
        self.came(self.rights.minted(2, 5, 9, 999), (20, 2, 9, "g0", "s", 999, 4))
        self.errors_within(lambda task, place, to: self.rights.minted(task, place, to, None))
        for badge in WRONG_BADGES + (None, 7):
            self.fails(NoGate, "t2", self.rights.minted, 0, 2, 9, badge)
            self.fails(Badged, 7, self.rights.minted, 0, 1, 9, badge)
        for badge in WRONG_BADGES + (None,):
            self.fails(BadBadge, badge, self.rights.minted, 0, 0, 9, badge)

    def test_handed(self):
        handed = self.rights.handed
        self.came(handed(0, 0, 2, 0, "s", None), (20, 2, 0, "g0", "s", None, 0))
        self.came(handed(0, 0, 2, 0, "sg", 3), (20, 2, 0, "g0", "sg", 3, 0))
        self.came(handed(0, 1, 1, 15, "sg", None), (20, 1, 15, "g0", "sg", 7, 2))
        self.came(handed(0, 2, 0, 15, "cg", None), (20, 0, 15, "t2", "cg", None, 5))

    def test_handed_errors(self):
        handed = self.rights.handed
        for task in WRONG_TASKS:
            self.fails(NoTask, task, handed, task, None, None, None, None, None)
            self.fails(NoTask, task, handed, 0, None, task, None, None, None)
        for place in WRONG_PLACES:
            self.fails(NoPlace, place, handed, 0, place, 2, None, None, None)
            self.fails(NoPlace, place, handed, 0, 9, 2, place, None, None)
        self.fails(Empty, 9, handed, 0, 9, 2, 5, None, None)
        self.fails(NotLet, "s", handed, 2, 5, 0, 0, None, 1000)
        self.fails(NotLet, "c", handed, 1, 2, 0, 0, None, 1000)
        self.fails(Held, 5, handed, 0, 0, 2, 5, None, 1000)
        self.fails(Held, 0, handed, 0, 0, 0, 0, "s", None)
        for letters in WRONG_LETTERS:
            self.fails(BadLetters, letters, handed, 0, 0, 2, 0, letters, 1000)
        self.fails(NoGate, "t2", handed, 0, 2, 2, 0, "c", 1000)
        self.fails(Badged, 7, handed, 0, 1, 2, 0, "s", 1000)
        self.fails(Badged, 7, handed, 0, 1, 2, 0, "s", 7)
        for badge in WRONG_BADGES:
            self.fails(BadBadge, badge, handed, 0, 0, 2, 0, "s", badge)

    def test_moved(self):
        later = self.rights.moved(0, 1, 9)
        self.same(later.rows[2], (2, 0, 9, "g0", "sg", 7, 0))
        self.same((later.rows[:2] + later.rows[3:], later.next), (self.rights.rows[:2] + self.rights.rows[3:], 20))
        self.errors_within(self.rights.moved)

    def test_dropped(self):
        later = self.rights.dropped(1, 1)
        self.same([row[0] for row in later.rows], [0, 1, 2, 4, 5, 6])
        self.same(later.rows[3], (4, 2, 5, "g0", "s", None, 0))
        first = self.rights.dropped(0, 0)
        self.same([(row[0], row[6]) for row in first.rows], [(1, None), (2, None), (3, None), (4, 3), (5, None), (6, 5)])
        self.assertEqual(first.next, 20)

    def test_taken_back(self):
        self.same([row[0] for row in self.rights.taken_back(0, 0).rows], [0, 1, 5, 6])
        self.same([row[0] for row in self.rights.taken_back(1, 1).rows], [0, 1, 2, 3, 5, 6])
        self.assertTrue(self.rights.taken_back(2, 5) == self.rights)

    def test_errors_of_dropped_and_taken_back(self):
        for call in (self.rights.dropped, self.rights.taken_back):
            for task in WRONG_TASKS:
                self.fails(NoTask, task, call, task, None)
            for place in WRONG_PLACES:
                self.fails(NoPlace, place, call, 0, place)
            self.fails(Empty, 9, call, 0, 9)

    def test_gone(self):
        gone = self.rights.gone
        self.assertTrue(gone(()) == self.rights)
        self.same([row[0] for row in gone((0,)).rows], [1])
        # Gate 0 is owned by task 1, gate 1 by task 2.
        self.same([row[0] for row in gone((1,)).rows], [5])
        self.same([row[0] for row in gone((2,)).rows], [0, 2, 3])
        self.same([row[0] for row in gone((0, 1, 2)).rows], [])
        self.same((gone((0, 1, 2)).next, gone((0, 1, 2)).gates), (20, (1, 2)))
        for lot in ((1, 0), (1, 1), (3,), (-1,), (True,), [1], None, 1, ("1",), ((1,),), {}, "1"):
            self.fails(BadLot, lot, gone, lot)

    def test_spent_behind_all_others(self):
        spent = Rights(self.rights.text.replace("next 20", "next 9999"))
        self.fails(Spent, 9999, spent.first, 0, 9, "g0")
        self.fails(Spent, 9999, spent.copied, 0, 0, 9, "s")
        self.fails(Spent, 9999, spent.minted, 0, 0, 9, 1)
        self.fails(Spent, 9999, spent.handed, 0, 0, 2, 0, "s", 1)
        self.fails(Held, 0, spent.first, 0, 0, "g0")
        self.fails(BadLetters, "", spent.copied, 0, 0, 9, "")
        self.fails(BadBadge, 1000, spent.minted, 0, 0, 9, 1000)
        self.fails(BadBadge, 1000, spent.handed, 0, 0, 2, 0, "s", 1000)
        self.assertEqual(spent.moved(0, 0, 9).next, 9999)
        self.assertEqual(len(spent.dropped(0, 0).taken_back(1, 1).gone((2,)).with_gate(0).gates), 3)
        last = Rights(self.rights.text.replace("next 20", "next 9998")).first(0, 9, "g0")
        self.same((last.next, last.rows[-1][0]), (9999, 9998))

    def test_numbers_are_never_used_again(self):
        later = self.rights.first(0, 9, "g0").dropped(0, 9).first(0, 9, "g0")
        self.same((later.rows[-1][0], later.next), (21, 22))


class TreesTest(unittest.TestCase, Checks):
    def test_random_deeds(self):
        for seed in range(30):
            chance = random.Random(seed)
            rights = Rights("tasks 3\ngate 1\ngate 2\nnext 0")
            for _ in range(60):
                before = rights
                rights = self.one_deed(chance, rights)
                self.assertTrue(Rights(rights.text) == rights)
                self.grows_less(before, rights)

    def one_deed(self, chance, rights):
        task, place, to = chance.randrange(3), chance.randrange(5), chance.randrange(5)
        letters = chance.choice(("s", "sg", "c", "cg"))
        deeds = (
            lambda: rights.first(task, place, chance.choice(("g0", "g1", "t1"))),
            lambda: rights.copied(task, place, to, letters),
            lambda: rights.minted(task, place, to, chance.randrange(1000)),
            lambda: rights.handed(task, place, chance.randrange(3), to, letters, chance.choice((None, None, 5))),
            lambda: rights.handed(task, place, chance.randrange(3), to, letters, None),
            lambda: rights.moved(task, place, to), lambda: rights.dropped(task, place),
            lambda: rights.taken_back(task, place),
        )
        try:
            return chance.choice(deeds)()
        except (Held, Empty, BadLetters, NotLet, NoGate, Badged):
            return rights

    def grows_less(self, before, after):
        """Only what is made comes; it has a parent's letters at the most, and its badge."""
        known = {row[0]: row for row in after.rows}
        for number, _, _, thing, letters, badge, parent in after.rows:
            if parent is not None:
                above = known[parent]
                self.assertEqual(above[3], thing)
                self.assertLessEqual(set(letters), set(above[4]))
                self.assertIn(above[5], (None, badge))
        new = [number for number in known if number not in {row[0] for row in before.rows}]
        self.assertEqual(new, [before.next] if after.next > before.next else [])


if __name__ == "__main__":
    unittest.main()
