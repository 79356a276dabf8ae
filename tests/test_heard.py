import itertools
import random
import unittest

from helpers import ANY_VALUES, Checks, is_int
from worlds import had_ever, linked_by, random_worlds
from clankernel.clans import Clans
from clankernel.errors import BadTruth, NoTask, OtherTasks, Same
from clankernel.heard import heard, shows_heard, ways_between
from clankernel.rights import Rights
from clankernel.spaces import Spaces
from clankernel.trees import page_chain

# The root 0 made 1 and 2, 1 made 3.
HOUSE = Clans("clans 4\ntask 0 - none\ntask 1 0 border\ntask 2 0 none\ntask 3 1 none")
EMPTY = "tasks 4\ngate 1\ngate 2\nnext 9"
BARE = Spaces("frames 2\ntasks 4")


def world(rights=(), pages=()):
    lines = [EMPTY] + [f"right {number} {told}" for number, told in enumerate(rights)]
    return Rights("\n".join(lines)), HOUSE, Spaces("\n".join(["frames 2", "tasks 4", *[f"page {told}" for told in pages]]))


class WaysTest(unittest.TestCase, Checks):
    def test_nothing_between(self):
        for one, other in itertools.permutations(range(4), 2):
            self.same(ways_between(*world(), True, one, other), ())
            self.same(ways_between(*world(), False, one, other), (("turns",),))

    def test_pages(self):
        for letters, to, back in (("r", True, False), ("rw", True, True), ("w", False, True), ("x", True, False), ("wx", True, True), ("rx", True, False)):
            worlds = world(pages=[f"1 3 {letters} 0 1"])
            # The root has it with all letters; page 1 of the root stands above.
            self.same(ways_between(*worlds, True, 0, 1), ((("page", 1),) if to else ()) + (("under", 3),))
            self.same(ways_between(*worlds, True, 1, 0), (("page", 1),) if back else ())
        # Letters of several pages count together; frames one by one.
        worlds = world(pages=["1 0 w 0 0", "1 1 r 0 1", "2 5 r 0 0", "2 6 rw 0 1"])
        self.same(ways_between(*worlds, True, 1, 2), (("page", 0),))
        self.same(ways_between(*worlds, True, 2, 1), (("page", 1),))

    def test_messages_and_what_comes_by_them(self):
        # 1 can send to 2: linked, both can have what the other one has.
        worlds = world(["1 0 g1 s - -"], ["1 3 r 0 1"])
        self.same(ways_between(*worlds, True, 1, 2), (("message",),))
        self.same(ways_between(*worlds, True, 2, 1), (("message",),))
        worlds = world(["1 0 g1 s - -"], ["1 3 rw 0 1"])
        self.same(ways_between(*worlds, True, 1, 2), (("message",), ("page", 1)))
        self.same(ways_between(*worlds, True, 2, 0), (("page", 1),))

    def test_links_by_what_can_ever_be_had(self):
        # 0 can hand to 1 the right by which 1 reaches 2.
        worlds = world(["0 0 g0 s - -", "0 1 g1 sg - -"])
        self.assertIn(("message",), ways_between(*worlds, True, 1, 2))
        self.assertNotIn(("message",), ways_between(*world(["0 0 g0 s - -", "0 1 g1 s - -"]), True, 1, 2))
        # Over the border of 1, from 3 to 2: linked with the stop, and the stop with 2.
        worlds = world(["3 0 g1 s - -"])
        self.same([ways_between(*worlds, True, one, other) for one, other in ((3, 1), (1, 2), (3, 2))], [(("message",),), (("message",),), ()])

    def test_control(self):
        worlds = world(["0 0 t1 c - -", "2 0 t3 cg - -"])
        self.same(ways_between(*worlds, True, 0, 1), (("control", "t1"),))
        # Also of one that is beneath.
        self.same(ways_between(*worlds, True, 0, 3), (("control", "t1"),))
        self.same(ways_between(*worlds, True, 0, 2), ())
        self.same(ways_between(*worlds, True, 2, 3), (("control", "t3"),))
        self.same(ways_between(*worlds, True, 2, 1), ())
        # What can ever be had: 2 can hand it to 1, by a gate of 1.
        worlds = world(["2 0 t3 cg - -", "2 1 g0 s - -"])
        self.same(ways_between(*worlds, True, 1, 3), (("control", "t3"),))

    def test_back(self):
        worlds = world(["0 0 g0 sg - -", "1 0 g0 sg - 0", "2 0 g0 s - 1", "2 1 g0 s - 0", "1 1 g1 s - -"])
        self.same([told for told in ways_between(*worlds, True, 0, 2) if told[0] == "back"], [("back", 2), ("back", 3)])
        self.same([told for told in ways_between(*worlds, True, 1, 2) if told[0] == "back"], [("back", 2)])
        self.same([told for told in ways_between(*worlds, True, 0, 1) if told[0] == "back"], [("back", 1)])
        for one, other in ((1, 0), (2, 0), (2, 1), (3, 1), (0, 3)):
            self.same([told for told in ways_between(*worlds, True, one, other) if told[0] == "back"], [])

    def test_under(self):
        worlds = world(pages=["0 5 r 1 0", "1 0 r 0 1", "2 7 r 1 0", "2 8 r 0 1", "3 9 r 2 7"])
        found = {(one, other): tuple(told[1] for told in ways_between(*worlds, True, one, other) if told[0] == "under") for one, other in itertools.permutations(range(4), 2)}
        self.assertEqual({pair: pages for pair, pages in found.items() if pages},
                         {(0, 1): (0,), (0, 2): (7, 8), (0, 3): (9,), (1, 0): (5,), (1, 2): (7,), (1, 3): (9,), (2, 3): (9,)})

    def test_all_of_them_ascend(self):
        worlds = world(["0 0 t1 cg - -", "0 1 g0 sg - -", "1 1 g0 s - 1", "0 2 t3 c - -"], ["1 2 rw 0 1", "1 3 r 0 0"])
        self.same(ways_between(*worlds, False, 0, 1), (("back", 2), ("control", "t1"), ("message",), ("page", 0), ("page", 1), ("turns",), ("under", 2), ("under", 3)))
        rights, clans, spaces = worlds
        self.same(ways_between(other=1, one=0, by_table=True, spaces=spaces, clans=clans, rights=rights)[-2:], (("under", 2), ("under", 3)))


class HeardTest(unittest.TestCase, Checks):
    def test_of_itself(self):
        for by_table in (False, True):
            for task in range(4):
                self.same(heard(*world(), by_table, task, task), ("heard", ()))

    def test_turns_are_heard(self):
        for one, other in itertools.permutations(range(4), 2):
            self.same(heard(*world(), False, one, other), ("heard", ((one, other, ("turns",)),)))

    def test_chains(self):
        worlds = world(pages=["0 5 r 1 0", "1 0 r 0 1", "2 7 r 1 0", "2 8 r 0 1", "3 9 r 2 7"])
        # 1 is heard by 2 and by 3 as it stands above them.
        kind, chain = heard(*worlds, True, 1, 3)
        self.assertEqual(kind, "heard")
        self.assertIs(shows_heard(*worlds, True, 1, 3, (kind, chain)), True)
        for chain in (((1, 3, ("under", 9)),), ((1, 2, ("under", 7)), (2, 3, ("under", 9))), ((1, 0, ("under", 5)), (0, 3, ("under", 9))),
                      ((1, 0, ("under", 5)), (0, 2, ("under", 8)), (2, 3, ("under", 9))), ((1, 0, ("under", 5)), (0, 3, ("page", 1)))):
            self.assertIs(shows_heard(*worlds, True, 1, 3, ("heard", chain)), True)
        for chain in ((), ((1, 3, ("under", 7)),), ((1, 2, ("under", 8)), (2, 3, ("under", 9))), ((1, 2, ("under", 7)),), ((2, 3, ("under", 9)),),
                      ((1, 2, ("under", 7)), (1, 3, ("under", 9))), ((1, 0, ("under", 5)), (0, 1, ("under", 0)), (1, 3, ("under", 9))), ((1, 3, ("message",)),),
                      ((1, 3, ("turns",)),), ((1, 3, ["under", 9]),), ([1, 3, ("under", 9)],), ((1, 3, ("under", 9), 0),), ((True, 3, ("under", 9)),), ((1, 3, ("under",)),),
                      ((1, 0, ("under", 5)), (0, 0, ("under", 5)), (0, 3, ("under", 9))), ((1, 3, ("page", True)),), ((1, 3, ("under", 9)), (3, 3, ("turns",)))):
            self.assertIs(shows_heard(*worlds, True, 1, 3, ("heard", chain)), False)
        # True is no number.
        self.assertIs(shows_heard(*worlds, True, 1, 0, ("heard", ((1, 0, ("under", 5)),))), True)
        frame = world(pages=["1 0 rw 0 1"])
        self.assertIs(shows_heard(*frame, True, 0, 1, ("heard", ((0, 1, ("page", 1)),))), True)
        self.assertIs(shows_heard(*frame, True, 0, 1, ("heard", ((0, 1, ("page", True)),))), False)

    def test_never(self):
        worlds = world(pages=["1 0 rw 0 1"])
        self.same(heard(*worlds, True, 1, 2)[0], "never")
        lots = [lot for many in range(5) for lot in itertools.combinations(range(4), many)]
        # From 1 and 0 ways lead to one another alone.
        right = [lot for lot in lots if 2 in lot and 1 not in lot and 0 not in lot]
        for lot in lots:
            self.assertIs(shows_heard(*worlds, True, 1, 2, ("never", lot)), lot in right)
            self.assertIs(shows_heard(*worlds, True, 2, 2, ("never", lot)), False)
            self.assertIs(shows_heard(*worlds, False, 1, 2, ("never", lot)), False)
        for lot in ([2], (3, 2), (2, 2), (2, 4), (True, 2), (2, None), 2, "2"):
            self.assertIs(shows_heard(*worlds, True, 1, 2, ("never", lot)), False)
        for value in ANY_VALUES:
            self.assertIs(shows_heard(*worlds, True, 1, 2, value), False)
            self.assertIs(shows_heard(*worlds, True, 1, 2, ("never", value)), False)
            self.assertIs(shows_heard(*worlds, True, 1, 2, ("heard", value)), False)
            self.assertIs(shows_heard(*worlds, True, 1, 1, ("heard", value)), value == () and type(value) is tuple)
            for step in ((value, 0, ("page", 1)), (1, value, ("page", 1)), (1, 0, value), (1, 0, ("page", value)), value):
                fine = type(step) is tuple and len(step) == 3 and [type(part) for part in step[:2]] == [int, int] and step[:2] == (1, 0)
                fine = fine and type(step[2]) is tuple and step[2] == ("page", 1) and type(step[2][1]) is int
                self.assertIs(shows_heard(*worlds, True, 1, 0, ("heard", (step,))), fine)

    def test_random_worlds_beside_a_model(self):
        rng = random.Random(12)
        sorts, kinds, long = set(), set(), 0
        for _ in range(60):
            worlds = random_worlds(rng, 4)
            by_table = rng.random() < 0.9
            ways = model(worlds, by_table)
            for one, other in itertools.product(range(4), repeat=2):
                if one != other:
                    self.same(ways_between(*worlds, by_table, one, other), tuple(sorted(ways[one, other])))
                    sorts |= {told[0] for told in ways[one, other]}
                told = heard(*worlds, by_table, one, other)
                kinds.add(told[0])
                self.assertIs(shows_heard(*worlds, by_table, one, other, told), True)
                reached, ahead = {one}, [one]
                while ahead:
                    task = ahead.pop()
                    more = [to for to in range(4) if to not in reached and ways[task, to]]
                    reached |= set(more)
                    ahead += more
                self.assertEqual(told[0], "heard" if other in reached else "never")
                if told[0] == "never":
                    self.assertTrue(not any(ways[out, into] for out in range(4) if out not in told[1] for into in told[1]))
                else:
                    long += len(told[1]) > 1
                    self.assertTrue(all(step[2] in ways[step[0], step[1]] for step in told[1]))
        self.assertEqual((sorts, kinds), ({"page", "message", "control", "back", "under", "turns"}, {"heard", "never"}))
        self.assertGreater(long, 5)


def model(worlds, by_table):
    """All ways between unlike tasks, word for word as the document tells them."""
    rights, clans, spaces = worlds
    everybody = tuple(range(rights.tasks))
    had = had_ever(rights, clans, spaces, everybody)
    linked = linked_by(rights, clans, everybody, had)
    parents = {row[0]: row[6] for row in rights.rows}
    owners = {row[0]: row[1] for row in rights.rows}
    ways = {pair: set() for pair in itertools.product(everybody, repeat=2)}
    for one, other in itertools.permutations(everybody, 2):
        told = ways[one, other]
        told |= {("page", frame) for frame in range(spaces.frames)
                 if (one, frame, "w") in had and ((other, frame, "r") in had or (other, frame, "x") in had)}
        told |= {("message",)} if (one, other) in linked else set()
        above, chief = {other}, clans.chief(other)
        while chief is not None:
            above.add(chief)
            chief = clans.chief(chief)
        told |= {("control", f"t{task}") for task in above if (one, f"t{task}", "c") in had}
        for number, task in owners.items():
            up = parents[number]
            while task == other and up is not None:
                if owners[up] == one:
                    told.add(("back", number))
                up = parents[up]
        told |= {("under", page) for page in range(16) if one in [place[0] for place in page_chain(spaces, other, page)[1:]]}
        told |= set() if by_table else {("turns",)}
    return ways


class ErrorsTest(unittest.TestCase, Checks):
    def test_in_their_sequence(self):
        worlds = world()
        less = Clans("clans 2\ntask 0 - none\ntask 1 0 none"), Spaces("frames 1\ntasks 2")
        for call, more in ((ways_between, ()), (heard, ()), (shows_heard, (None,))):
            for args, wrong in (((less[0], less[1]), less[0]), ((HOUSE, less[1]), less[1])):
                with self.assertRaises(OtherTasks) as caught:
                    call(worlds[0], *args, None, None, None, *more)
                self.assertIs(caught.exception.value, wrong)
            for value in ANY_VALUES:
                if type(value) is not bool:
                    self.fails(BadTruth, value, call, *worlds, value, None, None, *more)
            for value in ANY_VALUES + (4, -1):
                if not is_int(value, 0, 3):
                    self.fails(NoTask, value, call, *worlds, True, value, None, *more)
                    self.fails(NoTask, value, call, *worlds, False, 0, value, *more)
        for task in range(4):
            self.fails(Same, task, ways_between, *worlds, True, task, task)


if __name__ == "__main__":
    unittest.main()
