import random
import unittest

from helpers import ANY_VALUES, Checks
from test_rights import WRONG_PLACES, WRONG_TASKS, WRONG_THINGS, rich
from clankernel.errors import BadDeeds, BadLetters, CoreError, NoPlace, NoRight, NoTask, NoThing, Refused
from clankernel.places import after_deeds, bared, right_at, right_beneath, right_chain, right_holders
from clankernel.rights import Rights

WRONG_NUMBERS = (-1, 7, 19, 20, True, False, None, "1", (1,), [1], {})


def random_deed(chance):
    task, place, to = chance.randrange(3), chance.randrange(5), chance.randrange(5)
    letters = chance.choice(("s", "sg", "c", "cg"))
    return chance.choice((
        ("first", task, place, chance.choice(("g0", "g1", "t1"))), ("with_gate", task),
        ("copied", task, place, to, letters), ("minted", task, place, to, 5),
        ("handed", task, place, chance.randrange(3), to, letters, None), ("moved", task, place, to),
        ("dropped", task, place), ("taken_back", task, place), ("gone", (task,))))


class PlacesTest(unittest.TestCase, Checks):
    def setUp(self):
        self.rights = rich()

    def test_right_at(self):
        self.same(right_at(self.rights, 0, 1), (2, 0, 1, "g0", "sg", 7, 0))
        self.same(right_at(self.rights, 2, 5), (4, 2, 5, "g0", "s", None, 3))
        self.assertIsNone(right_at(self.rights, 2, 0))
        self.assertIsNone(right_at(self.rights, 0, 15))
        for task in WRONG_TASKS:
            self.fails(NoTask, task, right_at, self.rights, task, None)
        for place in WRONG_PLACES:
            self.fails(NoPlace, place, right_at, self.rights, 0, place)

    def test_right_chain(self):
        self.same(right_chain(self.rights, 4), (4, 3, 0))
        self.same(right_chain(self.rights, 0), (0,))
        self.same(right_chain(self.rights, 6), (6, 5))

    def test_right_beneath(self):
        self.same(right_beneath(self.rights, 0), (2, 3, 4))
        self.same(right_beneath(self.rights, 3), (4,))
        self.same(right_beneath(self.rights, 4), ())
        self.same(right_beneath(self.rights, 5), (6,))

    def test_no_right(self):
        for number in WRONG_NUMBERS:
            for call in (right_chain, right_beneath, bared):
                self.fails(NoRight, number, call, self.rights, number)

    def test_right_holders(self):
        self.same(right_holders(self.rights, "g0", "s"), (0, 1, 2))
        self.same(right_holders(self.rights, "g0", "g"), (0, 1))
        self.same(right_holders(self.rights, "g0", "c"), ())
        self.same(right_holders(self.rights, "g1", "s"), (1,))
        self.same(right_holders(self.rights, "t2", "c"), (0, 1))
        self.same(right_holders(self.rights, "t2", "g"), (0,))
        self.same(right_holders(self.rights, "t2", "s"), ())
        self.same(right_holders(self.rights, "t0", "c"), ())
        for thing in WRONG_THINGS:
            self.fails(NoThing, thing, right_holders, self.rights, thing, None)
        for letter in ("", "sg", "x", "r", None, 0, True, ("s",), ["s"]):
            self.fails(BadLetters, letter, right_holders, self.rights, "g0", letter)

    def test_bared(self):
        self.same(bared(self.rights, 0), ((1, "g0"), (2, "g0")))
        self.same(bared(self.rights, 3), ((2, "g0"),))
        self.same(bared(self.rights, 4), ())
        self.same(bared(self.rights, 5), ((1, "t2"),))
        both = self.rights.copied(2, 5, 6, "s").first(2, 7, "g0")
        self.same(bared(both, 3), ())
        self.same(bared(both.dropped(2, 7), 4), ())
        self.same(bared(both.dropped(2, 7), 3), ((2, "g0"),))
        other = self.rights.first(2, 7, "g1")
        self.same(bared(other, 3), ((2, "g0"),))

    def test_bared_beside_taken_back(self):
        for seed in range(40):
            chance = random.Random(seed)
            rights = rich()
            for _ in range(12):
                try:
                    rights = after_deeds(rights, (random_deed(chance),))
                except Refused:
                    pass
            for row in rights.rows:
                behind = rights.taken_back(row[1], row[2])
                had = {(right[1], right[3]) for right in rights.rows}
                has = {(right[1], right[3]) for right in behind.rows}
                self.same(bared(rights, row[0]), tuple(sorted(had - has)))


class AfterDeedsTest(unittest.TestCase, Checks):
    def setUp(self):
        self.rights = Rights("tasks 3\ngate 1\ngate 2\nnext 0")

    def test_each_deed(self):
        deeds = (("first", 0, 0, "g0"), ("first", 1, 0, "g1"), ("with_gate", 0), ("minted", 0, 0, 1, 7),
                 ("copied", 0, 1, 2, "sg"), ("handed", 0, 2, 2, 5, "s", None), ("moved", 2, 5, 4), ("dropped", 0, 2),
                 ("taken_back", 0, 0), ("gone", (2,)))
        now = self.rights
        for many, deed in enumerate(deeds):
            now = getattr(now, deed[0])(*deed[1:])
            self.assertTrue(after_deeds(self.rights, deeds[:many + 1]) == now)
        self.assertTrue(after_deeds(self.rights, ()) == self.rights)
        self.assertEqual(self.rights.text, "tasks 3\ngate 1\ngate 2\nnext 0")

    def test_refused(self):
        first = ("first", 0, 0, "g0")
        self.fails(Refused, (0, 3), after_deeds, self.rights, (("first", 3, 0, "g0"),))
        self.fails(Refused, (1, 0), after_deeds, self.rights, (first, first, ("dropped", 9, 9)))
        self.fails(Refused, (2, "x"), after_deeds, self.rights, (first, ("with_gate", 0), ("copied", 0, 0, 1, "x")))
        self.fails(Refused, (0, [1]), after_deeds, self.rights, (("gone", [1]),))
        self.fails(Refused, (10, 12), after_deeds, self.rights, (("with_gate", 0),) * 11)
        self.fails(Refused, (0, None), after_deeds, self.rights, (("with_gate", None),))

    def test_bad_deeds(self):
        first = ("first", 0, 0, "g0")
        for deed in ((), ("first",), ("first", 0, 0), ("first", 0, 0, "g0", 0), ["first", 0, 0, "g0"], ("with_gate",),
                     ("with_gate", 0, 0), ("copied", 0, 0, 1), ("minted", 0, 0, 1, 2, 3), ("handed", 0, 0, 1, 0, "s"),
                     ("moved", 0, 0), ("dropped", 0), ("taken_back", 0), ("taken_back", 0, 0, 0), ("gone",),
                     ("gone", 1, 2), ("text", 0), ("rows",), ("__init__", "x"), (0, 0), (None,), (["first"], 0, 0, "g0"),
                     "first", None, 0, {"first": 1}, ("First", 0, 0, "g0"), (("first",), 0, 0, "g0")):
            self.fails(BadDeeds, (first, deed), after_deeds, self.rights, (first, deed))
            # The form is looked at ahead of what is refused.
            self.fails(BadDeeds, (first, first, deed), after_deeds, self.rights, (first, first, deed))
        for value in ANY_VALUES:
            if value != ():
                self.fails(BadDeeds, value, after_deeds, self.rights, value)
        self.fails(BadDeeds, [first], after_deeds, self.rights, [first])
        many = (("gone", ()),) * 41
        self.fails(BadDeeds, many, after_deeds, self.rights, many)
        self.assertTrue(after_deeds(self.rights, many[:40]) == self.rights)

    def test_random_rows_of_deeds(self):
        for seed in range(60):
            chance = random.Random(seed)
            deeds = tuple(random_deed(chance) for _ in range(chance.randrange(41)))
            now, refused = self.rights, None
            for number, deed in enumerate(deeds):
                try:
                    now = getattr(now, deed[0])(*deed[1:])
                except CoreError as caught:
                    refused = (number, caught.value)
                    break
            if refused is None:
                self.assertTrue(after_deeds(self.rights, deeds) == now)
            else:
                self.fails(Refused, refused, after_deeds, self.rights, deeds)


if __name__ == "__main__":
    unittest.main()
