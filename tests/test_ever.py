import random
import unittest

from helpers import ANY_VALUES, Checks, is_int
from worlds import had_ever, had_now, linked_by, random_worlds, table_by
from clankernel.clans import Clans
from clankernel.errors import BadLetters, BadLot, NoTask, NoThing, OtherTasks
from clankernel.ever import ever, helpers, reach, shows_ever
from clankernel.rights import Rights
from clankernel.spaces import Spaces

FLAT = Clans("clans 3\ntask 0 - none\ntask 1 0 none\ntask 2 0 none")
# The root 0 made 1 and 2, 1 made 3, 2 made 4.
HOUSE = "clans 5\ntask 0 - none\ntask 1 0 {}\ntask 2 0 {}\ntask 3 1 none\ntask 4 2 none"
BARE = Spaces("frames 1\ntasks 3")
SOME = Rights("tasks 3\ngate 1\ngate 2\nnext 2\nright 0 0 0 g0 sg - -\nright 1 1 0 g1 sg - -")
ALL = (0, 1, 2)


def rights(tasks, gates, *rows):
    """Rights of rows (task, place, thing, letters)."""
    lines = [f"tasks {tasks}"] + [f"gate {owner}" for owner in gates] + [f"next {len(rows)}"]
    return Rights("\n".join(lines + ["right {} {} {} {} {} - -".format(number, *row) for number, row in enumerate(rows)]))


class EverTest(unittest.TestCase, Checks):
    def can(self, worlds, free, task, thing, letters):
        told = ever(*worlds, free, task, thing, letters)
        self.assertIs(shows_ever(*worlds, free, task, thing, letters, told), True)
        return told[0] == "deeds"

    def test_what_is_had_already(self):
        for free in ((), (1,), ALL):
            self.same(ever(SOME, FLAT, BARE, free, 0, "g0", "sg"), ("deeds", ()))
            self.same(ever(SOME, FLAT, BARE, free, 1, "g1", "s"), ("deeds", ()))
            self.same(ever(SOME, FLAT, BARE, free, 0, 0, "rwx"), ("deeds", ()))
        # Each letter may stand in another right.
        two = rights(2, (0,), (1, 0, "g0", "s"), (1, 1, "g0", "sg"))
        self.same(ever(two, Clans("clans 2\ntask 0 - none\ntask 1 0 none"), Spaces("frames 1\ntasks 2"), (), 1, "g0", "sg")[1], ())
        pages = Spaces("frames 1\ntasks 3\npage 1 0 r 0 0\npage 1 1 w 0 0")
        self.same(ever(SOME, FLAT, pages, (), 1, 0, "rw"), ("deeds", ()))
        self.assertEqual(ever(SOME, FLAT, pages, (), 1, 0, "rwx")[0], "never")

    def test_a_deed_of_one_step(self):
        told = ever(SOME, FLAT, BARE, ALL, 0, "g1", "s")
        self.assertEqual(told[0], "deeds")
        self.assertIs(shows_ever(SOME, FLAT, BARE, ALL, 0, "g1", "s", ("deeds", (("hand", 1, 0, "g1", "s"),))), True)
        self.assertIs(shows_ever(SOME, FLAT, BARE, ALL, 0, "g1", "s", ("deeds", (("hand", 1, 0, "g1", "sg"),))), True)
        # The link goes both ways: a call has an answer.
        self.assertTrue(self.can((SOME, FLAT, BARE), (0, 1), 1, "g0", "sg"))
        self.assertTrue(self.can((SOME, FLAT, BARE), (0, 1), 1, 0, "rwx"))

    def test_without_g_nothing_is_handed_on(self):
        world = rights(3, (1, 2), (0, 0, "g0", "s"), (1, 0, "g1", "s"))
        self.assertFalse(self.can((world, FLAT, BARE), ALL, 0, "g1", "s"))
        self.assertFalse(self.can((SOME, FLAT, BARE), (0, 2), 0, "g1", "s"))
        # With c and no g, a task may be controlled, and not handed on.
        world = rights(3, (1,), (0, 0, "g0", "s"), (0, 1, "t1", "c"), (0, 2, "t2", "cg"))
        self.assertFalse(self.can((world, FLAT, BARE), ALL, 1, "t1", "c"))
        self.assertTrue(self.can((world, FLAT, BARE), ALL, 1, "t2", "cg"))

    def test_deeds_of_several_steps(self):
        # 0 can hand g1 to 1, by which 1 reaches 2, and gives it frame 0.
        world = rights(3, (1, 2), (0, 0, "g0", "s"), (0, 1, "g1", "sg"))
        told = ever(world, FLAT, BARE, ALL, 2, 0, "rw")
        self.assertEqual(told[0], "deeds")
        for free, can in (((0, 1), False), ((0, 2), True), ((1, 2), False), ((2,), False)):
            self.assertEqual(self.can((world, FLAT, BARE), free, 2, 0, "rw"), can)
        far = rights(3, (1, 2), (0, 0, "g0", "s"), (1, 0, "g1", "s"))
        self.assertTrue(self.can((far, FLAT, BARE), ALL, 2, 0, "x"))
        self.assertIs(shows_ever(far, FLAT, BARE, ALL, 2, 0, "x", ("deeds", (("map", 0, 1, 0, "x"), ("map", 1, 2, 0, "x")))), True)
        self.assertIs(shows_ever(far, FLAT, BARE, ALL, 2, 0, "x", ("deeds", (("map", 1, 2, 0, "x"), ("map", 0, 1, 0, "x")))), False)

    def test_over_borders(self):
        """3 has a right to a gate of 4: by 1 and by 2, each of them with a border gate and free."""
        world, pages = rights(5, (4,), (3, 0, "g0", "s")), Spaces("frames 1\ntasks 5\npage 3 0 rw 0 0")
        for one in ("border", "none"):
            for two in ("border", "none"):
                clans = Clans(HOUSE.format(one, two))
                for free in ((1, 2, 3, 4), (1, 3, 4), (2, 3, 4), (3, 4), (1, 2, 4), (1, 2, 3), (0, 1, 2, 3, 4)):
                    through = one == two == "border" and {1, 2, 3, 4} <= set(free)
                    self.assertEqual(self.can((world, clans, pages), free, 4, 0, "rw"), through)
                    self.assertEqual(self.can((world, clans, pages), free, 1, 0, "r"), one == "border" and {1, 3} <= set(free))
                    self.assertEqual(self.can((world, clans, pages), free, 2, 0, "r"), one == two == "border" and {1, 2, 3} <= set(free))
                    # The root stands on no way.
                    self.assertFalse(self.can((world, clans, pages), free, 3, 0, "x"))

    def test_who_rests_has_what_it_has(self):
        self.assertTrue(self.can((SOME, FLAT, BARE), (), 0, "g0", "s"))
        self.assertFalse(self.can((SOME, FLAT, BARE), (0,), 1, "g0", "s"))
        self.assertFalse(self.can((SOME, FLAT, BARE), (1, 2), 0, "g1", "s"))

    def test_a_right_to_an_own_gate_links_nobody(self):
        world = rights(3, (0,), (0, 0, "g0", "sg"))
        self.assertFalse(self.can((world, FLAT, BARE), ALL, 1, "g0", "s"))
        # Nor does it hand anything to itself.
        self.assertIs(shows_ever(world, FLAT, BARE, ALL, 0, "g0", "s", ("deeds", (("hand", 0, 0, "g0", "s"),))), False)
        self.assertIs(shows_ever(world, FLAT, BARE, ALL, 0, "g0", "s", ("deeds", ())), True)


class ShowsTest(unittest.TestCase, Checks):
    def shows(self, value, thing="g1", letters="s", task=0, free=ALL, world=SOME):
        return shows_ever(world, FLAT, BARE, free, task, thing, letters, value)

    def test_deeds_bent(self):
        right = ("hand", 1, 0, "g1", "s")
        self.assertIs(self.shows(("deeds", (right,))), True)
        self.assertIs(self.shows(("deeds", (right, right))), True)
        for deed in (("map", 1, 0, "g1", "s"), ("hand", 0, 1, "g1", "s"), ("hand", 1, 1, "g1", "s"), ("hand", 2, 0, "g1", "s"), ("hand", 1, 0, "g0", "s"),
                     ("hand", 1, 0, "g2", "s"), ("hand", 1, 0, "g1", "g"), ("hand", 1, 0, "g1", "c"), ("hand", 1, 0, "g1", ""), ("hand", 1, 0, "g1", "gs"),
                     ("hand", True, 0, "g1", "s"), ("hand", 1, False, "g1", "s"), ("hand", 1, 0, "g1"), ("hand", 1, 0, "g1", "s", 0), ["hand", 1, 0, "g1", "s"],
                     ("hand", 3, 0, "g1", "s"), ("hand", 1, -3, "g1", "s"), ("hand", 1, 0, 0, "r"), ("Hand", 1, 0, "g1", "s")):
            self.assertIs(self.shows(("deeds", (deed,))), False)
        for value in (("deeds", [right]), ["deeds", (right,)], ("deeds", (right,), 0), ("deed", (right,)), ("deeds", ()), (right,), right):
            self.assertIs(self.shows(value), False)
        # Other deeds that lead elsewhere may stand beside it.
        self.assertIs(self.shows(("deeds", (("map", 0, 1, 0, "r"), ("map", 1, 0, 0, "r"), right))), True)
        self.assertIs(self.shows(("deeds", (("map", 1, 0, 0, "r"), right))), False)
        for value in ANY_VALUES:
            self.assertIs(self.shows(value), False)
            self.assertIs(self.shows(("deeds", value)), False)
            self.assertIs(self.shows(("deeds", (value,))), False)
            self.assertIs(self.shows(("never", value)), False)
            for at in range(5):
                bent = right[:at] + (value,) + right[at + 1:]
                self.assertIs(self.shows(("deeds", (bent,))), bent[:1] == ("hand",) and (at, value) in ((1, 1), (2, 0)) and type(value) is int)

    def test_one_with_g_and_one_without(self):
        world = rights(3, (1, 2), (0, 0, "g0", "s"), (1, 0, "g1", "s"), (1, 1, "g1", "sg"))
        self.assertIs(self.shows(("deeds", (("hand", 1, 0, "g1", "s"),)), world=world), True)
        world = rights(3, (1, 2), (0, 0, "g0", "s"), (1, 0, "g1", "s"))
        self.assertIs(self.shows(("deeds", (("hand", 1, 0, "g1", "s"),)), world=world), False)

    def test_tables(self):
        """With 1 resting, 0 never has g1: the least closed table, greater ones, and such as are not closed."""
        free = (0, 2)
        least = reach(SOME, FLAT, BARE, free)
        self.same(least, (((("g0", "sg"),), ((0, "rwx"),)), ((("g1", "sg"),), ()), ((), ())))
        for table in (least, (least[0], ((("g0", "s"), ("g1", "sg")), ((0, "r"),)), least[2]), (least[0], least[1], ((("t0", "c"),), ((0, "x"),)))):
            self.assertIs(self.shows(("never", table), free=free), True)
        all_but = ((("g0", "sg"), ("t0", "cg"), ("t1", "cg"), ("t2", "cg")), ((0, "rwx"),))
        for table in (
                (least[0], ((), ()), least[2]), (((("g0", "s"),), ((0, "rwx"),)), least[1], least[2]), (((("g0", "sg"),), ((0, "rw"),)), least[1], least[2]),
                least[:2], least + (((), ()),), list(least), (least[0], least[1], ((),)), (least[0], least[1], [(), ()]), (least[0], least[1], ([], ())),
                (least[0], least[1], ((("g0", "sg"), ("g0", "sg")), ())), (least[0], least[1], ((("g1", "s"), ("g0", "s")), ())), (least[0], least[1], ((("g0", "g"),), ())),
                (least[0], least[1], ((("g2", "s"),), ())), (least[0], least[1], ((("t3", "c"),), ())), (least[0], least[1], ((("g0", ""),), ())), (least[0], least[1], ((["g0", "s"],), ())),
                (least[0], least[1], ((), ((1, "r"),))), (least[0], least[1], ((), ((0, ""),))), (least[0], least[1], ((), ((False, "r"),))), (least[0], least[1], (((0, "r"),), ())),
                (least[0], least[1], ((), (("g0", "s"),))), (least[0], least[1], ((("g0", "s"), (0, "r")), ())), (((("g0", "sg"), ("g1", "s")), ((0, "rwx"),)), least[1], least[2])):
            self.assertIs(self.shows(("never", table), free=free), False)
        # By what it tells there are more links: 2 has a right to a gate of 2's, 0 one to a gate of 2's.
        self.assertIs(self.shows(("never", (all_but, least[1], all_but)), free=free), True)
        # Tables of more free tasks have to be closed for their deeds.
        self.assertIs(self.shows(("never", least), free=ALL), False)
        self.assertIs(shows_ever(SOME, FLAT, BARE, ALL, 2, "g0", "s", ("never", least)), False)
        self.assertIs(shows_ever(SOME, FLAT, BARE, free, 2, "g0", "s", ("never", least)), True)
        # A table that tells a right tells a link, by which more is brought: 0 links to 2 by g1.
        told = (least[0], least[1], ((("g0", "s"),), ()))
        self.assertIs(shows_ever(SOME, FLAT, BARE, free, 2, "g1", "s", ("never", told)), True)
        linked = (((("g0", "sg"), ("t0", "c")), ((0, "rwx"),)), least[1], ((("g1", "s"),), ()))
        self.assertIs(shows_ever(SOME, FLAT, BARE, (0, 2), 2, "t1", "c", ("never", linked)), True)
        opened = rights(3, (2, 0), (1, 0, "g0", "sg"))
        table = (((), ((0, "rwx"),)), ((("g0", "sg"),), ()), ((("g1", "s"),), ()))
        self.assertIs(shows_ever(opened, FLAT, BARE, (0, 2), 2, "t1", "c", ("never", table)), False)
        self.assertIs(shows_ever(opened, FLAT, BARE, (2,), 2, "t1", "c", ("never", table)), True)

    def test_ever_on_its_own_tables(self):
        self.assertIs(self.shows(ever(SOME, FLAT, BARE, (0, 2), 0, "g1", "s"), free=(0, 2)), True)


class ErrorsTest(unittest.TestCase, Checks):
    def test_in_their_sequence(self):
        two_clans, two_spaces = Clans("clans 2\ntask 0 - none\ntask 1 0 none"), Spaces("frames 1\ntasks 2")
        holes = Clans("clans 4\ntask 0 - none\ntask 1 0 none\ntask 3 0 none")
        for call, more in ((ever, ()), (helpers, ()), (shows_ever, (None,))):
            for clans in (two_clans, holes, FLAT.made(0, True)):
                self.fails_with(OtherTasks, clans, call, SOME, clans, two_spaces, None, None, None, None, *more)
            self.fails_with(OtherTasks, two_spaces, call, SOME, FLAT, two_spaces, None, None, None, None, *more)
            for free in ANY_VALUES + ((3,), (0, 0), (1, 0), (-1,), (True,), [0]):
                if free not in ((), (1,), (1, 2)) or type(free) is not tuple or not all(type(task) is int for task in free):
                    self.fails(BadLot, free, call, SOME, FLAT, BARE, free, None, None, None, *more)
            for task in ANY_VALUES + (3, -1):
                if not is_int(task, 0, 2):
                    self.fails(NoTask, task, call, SOME, FLAT, BARE, ALL, task, None, None, *more)
            for thing in ANY_VALUES + (1, -1, "g2", "t3", "g", "t", "g00", "G0"):
                if not is_int(thing, 0, 0):
                    self.fails(NoThing, thing, call, SOME, FLAT, BARE, ALL, 0, thing, None, *more)
            for thing, right in (("g0", ("s", "sg")), ("t2", ("c", "cg")), (0, ("r", "rw", "rwx", "rx", "w", "wx", "x"))):
                for letters in ANY_VALUES + ("s", "sg", "g", "c", "cg", "gs", "r", "rw", "rwx", "rx", "w", "wx", "x", "wr", "rr", "sc"):
                    if type(letters) is not str or letters not in right:
                        self.fails(BadLetters, letters, call, SOME, FLAT, BARE, ALL, 0, thing, letters, *more)
                    else:
                        call(SOME, FLAT, BARE, ALL, 0, thing, letters, *more)
        self.fails_with(OtherTasks, two_clans, reach, SOME, two_clans, two_spaces, None)
        self.fails_with(OtherTasks, two_spaces, reach, SOME, FLAT, two_spaces, None)
        self.fails(BadLot, (3,), reach, SOME, FLAT, BARE, (3,))
        self.fails(BadLot, None, reach, SOME, FLAT, BARE, None)

    def fails_with(self, error, value, call, *args):
        with self.assertRaises(error) as caught:
            call(*args)
        self.assertIs(caught.exception.value, value)


class ReachTest(unittest.TestCase, Checks):
    def test_the_least_closed_table(self):
        self.same(reach(SOME, FLAT, BARE, ()), (((("g0", "sg"),), ((0, "rwx"),)), ((("g1", "sg"),), ()), ((), ())))
        whole = ((("g0", "sg"), ("g1", "sg")), ((0, "rwx"),))
        self.same(reach(rights=SOME, clans=FLAT, spaces=BARE, free=ALL), (whole,) * 3)
        self.same(reach(SOME, FLAT, BARE, (0, 1)), (whole, whole, ((), ())))
        self.same(reach(SOME, FLAT, BARE, (1, 2)), (((("g0", "sg"),), ((0, "rwx"),)), ((("g1", "sg"),), ()), ((("g1", "sg"),), ())))

    def test_things_ascend_as_names(self):
        gates = tuple([0] * 12)
        world = rights(1, gates, *((0, place, thing, "s") for place, thing in enumerate(("g2", "g10", "g1", "t0".replace("t0", "g11")))))
        told = reach(world, Clans("clans 1\ntask 0 - none"), Spaces("frames 2\ntasks 1"), ())
        self.same(told, (((("g1", "s"), ("g10", "s"), ("g11", "s"), ("g2", "s")), ((0, "rwx"), (1, "rwx"))),))

    def test_helpers(self):
        self.same(helpers(SOME, FLAT, BARE, ALL, 0, "g1", "s"), (0, 1))
        self.same(helpers(SOME, FLAT, BARE, ALL, 2, "g0", "s"), (0, 1, 2))
        # It never can; it is had already.
        self.same(helpers(SOME, FLAT, BARE, (0, 2), 0, "g1", "s"), ())
        self.same(helpers(SOME, FLAT, BARE, ALL, 0, "g0", "s"), ())
        # By the one or by the other: neither of both is needed.
        world = rights(3, (0, 0), (1, 0, "g0", "sg"), (2, 0, "g0", "sg"), (2, 1, "g1", "s"))
        self.same(helpers(world, FLAT, BARE, ALL, 0, "g0", "s"), (0,))
        self.same(helpers(free=ALL, letters="s", thing="g0", task=0, spaces=BARE, clans=FLAT, rights=world), (0,))

    def test_random_worlds_beside_a_model(self):
        rng = random.Random(6)
        kinds = {"deeds": 0, "never": 0, "long": 0, "helped": 0}
        for _ in range(120):
            worlds = random_worlds(rng)
            world, clans, spaces = worlds
            free = tuple(task for task in range(world.tasks) if rng.random() < 0.8)
            had = had_ever(world, clans, spaces, free)
            table = reach(*worlds, free)
            self.same(table, table_by(world, spaces, had))
            without = {helper: had_ever(world, clans, spaces, tuple(task for task in free if task != helper)) for helper in free}
            things = [(f"g{gate}", letters) for gate in range(len(world.gates)) for letters in ("s", "sg")]
            things += [(f"t{task}", letters) for task in range(world.tasks) for letters in ("c", "cg")]
            things += [(frame, letters) for frame in range(spaces.frames) for letters in ("r", "w", "x", "rw", "rwx")]
            for task in range(world.tasks):
                for thing, letters in rng.sample(things, min(6, len(things))):
                    can = all((task, thing, letter) in had for letter in letters)
                    told = ever(*worlds, free, task, thing, letters)
                    self.assertEqual(told[0], "deeds" if can else "never")
                    kinds[told[0]] += 1
                    kinds["long"] += can and len(told[1]) > 1
                    self.assertIs(shows_ever(*worlds, free, task, thing, letters, told), True)
                    self.check_deeds(worlds, free, (task, thing, letters), told)
                    self.assertIs(shows_ever(*worlds, free, task, thing, letters, ("never", table)), not can)
                    needed = tuple(helper for helper in free if can and not all((task, thing, letter) in without[helper] for letter in letters))
                    self.same(helpers(*worlds, free, task, thing, letters), needed)
                    kinds["helped"] += needed != ()
        self.assertTrue(min(kinds.values()) > 10, kinds)

    def check_deeds(self, worlds, free, asked, told):
        """Each deed can be at its turn, letter by letter; a table tells what is had, and no deed brings more."""
        world, clans, spaces = worlds
        task, thing, letters = asked
        if told[0] == "deeds":
            had = had_now(world, spaces)
            for name, giver, taker, what, some in told[1]:
                self.assertIn((giver, taker), linked_by(world, clans, free, had))
                self.assertEqual(name, "map" if type(what) is int else "hand")
                self.assertTrue(all((giver, what, letter) in had for letter in some + ("g" if name == "hand" else "")))
                had |= {(taker, what, letter) for letter in some}
            self.assertTrue(all((task, thing, letter) in had for letter in letters))
            # One deed out, at the end: it leads there no more, or another one did.
            if told[1]:
                fewer = ("deeds", told[1][:-1])
                self.assertIs(shows_ever(*worlds, free, task, thing, letters, fewer), False)


if __name__ == "__main__":
    unittest.main()
