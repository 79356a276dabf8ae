import itertools
import random
import unittest

from helpers import ANY_VALUES, Checks, alike, is_int
from clankernel.errors import BadLot, BadRoads, Gone, NoThread, Stuck
from clankernel.lots import cut_stuck, freed, least_stuck, shows_freed, shows_ring, stuck
from clankernel.waiting import Waits

# Threads 0 to 5; gates 0 and 1 of thread 1, gate 2 of thread 2, gate 3 of thread 0.
HEAD = "now 5\nthreads 4 4 4 4 4 4\ngates 1 1 2 0"
HOWS = ("ready", "limit", "device", "break", "send", "receive", "reply")


def waits(*lines, head=HEAD):
    return Waits("\n".join((head,) + lines))


def sends(thread, gate, till="ever"):
    return f"sends {thread} {gate} none 0 0 0 0 0 {till} none 0"


class StuckTest(unittest.TestCase, Checks):
    def test_each_kind_of_wait(self):
        """Thread 3 waits for one that is ready, or for one that waits for it."""
        ready = "receives 4 any 0 9"
        self.same(stuck(waits(), ()), ())
        self.same(stuck(waits(sends(3, 0)), ()), ())
        self.same(stuck(waits(sends(1, 2), sends(2, 0)), ()), (1, 2))
        self.same(stuck(waits(sends(1, 2), sends(2, 0), sends(3, 0)), ()), (1, 2, 3))
        self.same(stuck(waits(sends(1, 2, 9), sends(2, 0), sends(3, 0)), ()), ())
        self.same(stuck(waits(sends(1, 0)), ()), (1,))
        self.same(stuck(waits("receives 1 0 0 ever", ready), ()), (1,))
        self.same(stuck(waits("receives 1 any 0 9"), ()), ())
        # A reply, by one that is ready; by one that is stuck.
        self.same(stuck(waits("receives 3 reply 0 ever", "owes 2 3"), ()), ())
        self.same(stuck(waits("receives 2 2 0 ever", "receives 3 reply 0 ever", "owes 2 3"), ()), (2, 3))
        self.same(stuck(waits("receives 2 2 0 ever", "receives 3 reply 0 8", "owes 2 3"), ()), (2,))

    def test_roads_to_send(self):
        receives = waits("receives 1 0 0 ever")
        self.same(stuck(receives, (("send", 0, 0),)), ())
        self.same(stuck(receives, (("send", 0, 1),)), (1,))
        self.same(stuck(waits("receives 1 any 0 ever"), (("send", 0, 1),)), ())
        self.same(stuck(waits("receives 1 any 0 ever"), (("send", 0, 2),)), (1,))
        # By one that is gone; by one that is stuck itself; by itself.
        self.same(stuck(waits("gone 0", "receives 1 0 0 ever"), (("send", 0, 0),)), (1,))
        both = waits("receives 1 0 0 ever", "receives 2 2 0 ever")
        self.same(stuck(both, (("send", 1, 2), ("send", 2, 0))), (1, 2))
        self.same(stuck(both, (("send", 1, 2), ("send", 2, 0), ("send", 5, 0))), ())
        self.same(stuck(receives, (("send", 1, 0),)), (1,))

    def test_roads_of_devices(self):
        self.same(stuck(waits("receives 1 0 0 ever"), (("device", 0),)), ())
        self.same(stuck(waits("receives 1 0 0 ever"), (("device", 1),)), (1,))
        self.same(stuck(waits("receives 1 any 0 ever"), (("device", 1),)), ())
        self.same(stuck(waits(sends(1, 2), sends(2, 0)), (("device", 0), ("device", 2))), (1, 2))

    def test_roads_to_break(self):
        ring = waits(sends(1, 2), sends(2, 0))
        self.same(stuck(ring, (("break", 0, 1),)), ())
        self.same(stuck(ring, (("break", 1, 2), ("break", 2, 1), ("break", 2, 2))), (1, 2))
        self.same(stuck(waits("gone 0", sends(1, 2), sends(2, 0)), (("break", 0, 1),)), (1, 2))
        # One that can break waits with a limit; one that waits for ever outside of all.
        self.same(stuck(waits("receives 0 any 0 9", sends(1, 2), sends(2, 0)), (("break", 0, 2),)), ())
        self.same(stuck(waits("receives 0 any 0 ever", sends(1, 2), sends(2, 0)), (("break", 0, 2),)), (0, 1, 2))

    def test_any_of_one_that_owns_no_gate(self):
        self.same(stuck(waits("receives 5 any 0 ever"), (("device", 0), ("send", 0, 0))), (5,))

    def test_none_and_all(self):
        self.same(stuck(waits(*(f"gone {thread}" for thread in range(6))), ()), ())
        self.same(stuck(waits(*(f"receives {thread} any 0 ever" for thread in range(6))), ()), (0, 1, 2, 3, 4, 5))
        self.same(stuck(waits=Waits("now 0\nthreads 1\ngates"), roads=()), ())

    def test_wrong_roads(self):
        world = waits(sends(1, 2), sends(2, 0))
        wrong = ANY_VALUES + ((("break", 0, 6),), (("break", 6, 0),), (("break", 0),), (("break", 0, 1, 2),), (("device", 4),), (("device", -1),), (("device",),), (("device", 0, 0),),
                                 (("send", 0, 4),), (("send", 6, 0),), (("send", 0),), (("send", True, 0),), (("device", False),), (["device", 0],), [("device", 0)],
                                 (("device", 0), ("device", 0)), (("device", 1), ("device", 0)), (("device", 0), ("break", 0, 1)), (("go", 0, 1),), ((0, 1),), (((), 0, 1),), ((),))
        for value in wrong:
            if value == ():
                continue
            self.fails(BadRoads, value, stuck, world, value)
            self.fails(BadRoads, value, least_stuck, world, value)
            self.fails(BadRoads, value, shows_ring, world, value, ())
            self.fails(BadRoads, value, cut_stuck, world, value, "no lot")
            self.fails(BadRoads, value, freed, world, value, 0)
            self.fails(BadRoads, value, shows_freed, world, value, 0, ())
            self.fails(NoThread, 6, freed, world, value, 6)


class FreedTest(unittest.TestCase, Checks):
    def test_each_way(self):
        self.same(freed(waits(), (), 0), ((0, "ready"),))
        self.same(freed(waits("receives 0 any 0 9"), (), 0), ((0, "limit"),))
        self.same(freed(waits(sends(0, 0, 9)), (), 0), ((0, "limit"),))
        self.same(freed(waits("receives 0 3 0 ever"), (("device", 3),), 0), ((0, "device"),))
        others = ("receives 3 any 0 ever", "receives 4 any 0 ever", "receives 5 any 0 ever")
        self.same(freed(waits("receives 0 3 0 ever", "receives 2 any 0 ever", *others), (("break", 1, 0),), 0), ((1, "ready"), (0, "break")))
        self.same(freed(waits("receives 0 3 0 ever", "receives 2 any 0 ever", *others), (("send", 1, 3),), 0), ((1, "ready"), (0, "send")))
        self.same(freed(waits(sends(0, 1), "receives 2 any 0 ever", *others), (), 0), ((1, "ready"), (0, "receive")))
        self.same(freed(waits("receives 0 reply 0 ever", "receives 2 any 0 ever", *others, "owes 1 0"), (), 0), ((1, "ready"), (0, "reply")))

    def test_chains(self):
        world = waits("receives 1 any 0 ever", sends(2, 3), "receives 3 reply 0 ever", "receives 4 any 0 ever", "receives 5 any 0 ever", "owes 2 3")
        roads = (("break", 4, 5), ("send", 3, 1))
        self.same(freed(world, roads, 3), ((0, "ready"), (2, "receive"), (3, "reply")))
        self.same(freed(thread=1, roads=roads, waits=world), ((0, "ready"), (2, "receive"), (3, "reply"), (1, "send")))
        self.fails(Stuck, 4, freed, world, roads, 4)
        self.fails(Stuck, 5, freed, world, roads, 5)
        # One that is gone frees nobody, and is not freed.
        world = waits("gone 0", "receives 1 0 0 ever", "receives 2 any 0 ever", sends(3, 1), sends(4, 1), "receives 5 any 0 ever")
        self.fails(Stuck, 1, freed, world, (("break", 0, 1),), 1)
        self.fails(Gone, 0, freed, world, (("break", 1, 0),), 0)

    def test_errors_in_their_sequence(self):
        world = waits("gone 0", "receives 1 0 0 ever")
        for value in ANY_VALUES + (-1, 6):
            if not is_int(value, 0, 5):
                self.fails(NoThread, value, freed, world, None, value)
                self.fails(NoThread, value, shows_freed, world, None, value, None)
        self.fails(BadRoads, None, freed, world, None, 1)
        self.fails(Stuck, 1, shows_freed, world, (), 1, ())
        self.fails(Gone, 0, shows_freed, world, (), 0, ())

    def test_shows_freed_of_any_values(self):
        world = waits("receives 1 0 0 ever")
        for value in ANY_VALUES:
            self.assertIs(shows_freed(world, (("send", 0, 0),), 1, value), False)
            self.assertIs(shows_freed(world, (("send", 0, 0),), 1, (value, (1, "send"))), False)
            self.assertIs(shows_freed(world, (("send", 0, 0),), 1, ((0, "ready"), value)), False)
            self.assertIs(shows_freed(world, (("send", 0, 0),), 1, ((value, "ready"), (1, "send"))), alike_0(value))
            self.assertIs(shows_freed(world, (("send", 0, 0),), 1, ((0, value), (1, "send"))), False)
            self.assertIs(shows_freed(world, (("send", 0, 0),), 1, ((0, "ready"), (1, value))), False)

    def test_shows_freed(self):
        world = waits("receives 0 3 0 9", "receives 1 any 0 ever", "receives 2 2 0 ever")
        roads = (("break", 3, 1), ("device", 3), ("send", 4, 0), ("send", 4, 1), ("send", 5, 2))
        right = {((3, "ready"), (1, "break")), ((4, "ready"), (1, "send"))}
        values = [tuple(zip(threads, hows)) for many in (1, 2) for threads in itertools.product(range(6), repeat=many) for hows in itertools.product(HOWS, repeat=many)]
        for value in values:
            self.assertIs(shows_freed(world, roads, 1, value), value in right)
            self.assertIs(shows_freed(world, roads, 0, value), value in (((0, "limit"),), ((0, "device"),)))
        self.assertIs(shows_freed(world, roads, 1, [(3, "ready"), (1, "break")]), False)
        self.assertIs(shows_freed(world, roads, 1, ([3, "ready"], (1, "break"))), False)
        # One step more leads there, too, but it is not as short as can be.
        self.assertIs(shows_freed(world, roads, 1, ((5, "ready"), (3, "break"), (1, "break"))), False)
        longer = waits("receives 0 reply 0 ever", "receives 1 0 0 ever", sends(2, 1), "owes 2 0")
        self.assertIs(shows_freed(longer, (("send", 3, 0),), 2, ((3, "ready"), (1, "send"), (2, "receive"))), True)
        self.assertIs(shows_freed(longer, (("send", 3, 0),), 0, ((3, "ready"), (1, "send"), (2, "receive"), (0, "reply"))), True)
        self.assertIs(shows_freed(longer, (("send", 3, 0),), 0, ((3, "ready"), (1, "send"), (2, "receive"), (0, "receive"))), False)
        self.assertIs(shows_freed(longer, (("send", 3, 0),), 0, ((4, "ready"), (1, "send"), (2, "receive"), (0, "reply"))), False)
        self.assertIs(shows_freed(longer, (("send", 3, 0),), 0, ((3, "limit"), (1, "send"), (2, "receive"), (0, "reply"))), False)
        self.assertIs(shows_freed(longer, (("send", 3, 0),), 2, ((3, "ready"), (1, "send"), (0, "reply"))), False)


def alike_0(value):
    return type(value) is int and value == 0


class LotsTest(unittest.TestCase, Checks):
    def test_least_stuck(self):
        self.same(least_stuck(waits(), ()), ())
        self.same(least_stuck(waits(sends(1, 2), sends(2, 0), sends(3, 0)), ()), ((1, 2),))
        self.same(least_stuck(waits("receives 0 3 0 ever", sends(1, 2), sends(2, 0), "receives 4 any 0 ever"), ()), ((0,), (1, 2), (4,)))
        # Two rings that share a thread; a lot that needs both of its callers.
        world = waits("receives 1 0 0 ever", sends(2, 1), sends(3, 1))
        self.same(least_stuck(waits=world, roads=(("send", 2, 0), ("send", 3, 0))), ((1, 2, 3),))
        self.same(least_stuck(world, (("send", 2, 0),)), ((1, 2),))

    def test_shows_ring(self):
        world = waits(sends(1, 2), sends(2, 0), sends(3, 0), "receives 4 any 0 ever")
        right = least_stuck(world, ())
        self.same(right, ((1, 2), (4,)))
        for many in range(7):
            for lot in itertools.combinations(range(6), many):
                self.assertIs(shows_ring(world, (), lot), lot in right)
        for value in ANY_VALUES + ([1, 2], (2, 1), (True, 2), (4, 4), (4.0,), ((1, 2),)):
            self.assertIs(shows_ring(world, (), value), alike(value, (1, 2)))
        self.assertIs(shows_ring(value=(4,), roads=(), waits=world), True)

    def test_cut_stuck(self):
        world = waits(sends(1, 2), sends(2, 0), sends(3, 0), "receives 4 any 0 ever")
        self.same([cut_stuck(world, (), some) for some in ((), (1,), (2,), (3,), (4,), (1, 4), (0, 1, 2, 3, 4, 5))], [4, 1, 1, 3, 3, 0, 0])
        # Once who could send is gone nobody can.
        world = waits("receives 1 0 0 ever")
        self.same([cut_stuck(waits=world, roads=(("send", 5, 0),), some=some) for some in ((), (5,), (1,))], [0, 1, 0])
        for value in ANY_VALUES + ((1, 1), (2, 1), (6,), (-1,), (True,), [1]):
            if value != () and value != (1,) and value != (1, 2):
                self.fails(BadLot, value, cut_stuck, world, (), value)
        gone = waits("gone 0")
        self.fails(BadLot, (0,), cut_stuck, gone, (), (0,))
        self.fails(BadLot, (0, 1), cut_stuck, gone, (), (0, 1))
        self.fails(BadRoads, 5, cut_stuck, gone, 5, (0,))

    def test_random_worlds_beside_all_lots(self):
        rng = random.Random(2)
        hows = set()
        for _ in range(250):
            world, roads = random_world(rng)
            alive = [thread for thread in range(6) if thread in world]
            lots = [lot for many in range(7) for lot in itertools.combinations(alive, many) if is_stuck(world, roads, lot)]
            greatest = stuck(world, roads)
            self.same(greatest, tuple(sorted({thread for lot in lots for thread in lot})))
            self.assertIn(greatest, lots)
            least = [lot for lot in lots if lot and not any(other and set(other) < set(lot) for other in lots)]
            self.same(least_stuck(world, roads), tuple(sorted(least)))
            for thread in range(6):
                if thread in greatest:
                    self.fails(Stuck, thread, freed, world, roads, thread)
                elif thread not in world:
                    self.fails(Gone, thread, freed, world, roads, thread)
                else:
                    row = freed(world, roads, thread)
                    self.assertIs(shows_freed(world, roads, thread, row), True)
                    self.assertEqual(len(row), distance(world, roads, thread))
                    hows |= {how for _, how in row}
        self.assertEqual(hows, set(HOWS))


def random_world(rng):
    while True:
        lines, debts = [], {}
        for thread in range(6):
            kind = rng.choice(["ready", "gone", "sends", "sends", "receives", "receives", "reply", "reply"])
            till = rng.choice(["ever", "ever", "ever", "9"])
            if kind == "gone":
                lines.append(f"gone {thread}")
            if kind == "sends":
                lines.append(sends(thread, rng.randrange(4), till))
            if kind == "receives":
                own = {0: [3], 1: [0, 1], 2: [2]}.get(thread, [])
                lines.append(f"receives {thread} {rng.choice(['any'] + own)} 0 {till}")
            if kind == "reply":
                lines.append(f"receives {thread} reply 0 {till}")
                debts[rng.randrange(6)] = thread
        lines += [f"owes {debtor} {debts[debtor]}" for debtor in sorted(debts)]
        try:
            world = waits(*lines)
        except ValueError:
            continue
        roads = {("break", rng.randrange(6), rng.randrange(6)) for _ in range(rng.randrange(3))}
        roads |= {("device", rng.randrange(4)) for _ in range(rng.randrange(2))}
        roads |= {("send", rng.randrange(6), rng.randrange(4)) for _ in range(rng.randrange(6))}
        return world, tuple(sorted(roads))


def is_beside(world, roads, thread, lot):
    """Word for word as the document tells it."""
    state = world.state(thread)
    if state[0] in ("ready", "gone"):
        return False
    if (state[5] if state[0] == "sends" else state[3]) is not None:
        return False
    if any(road[0] == "break" and road[2] == thread and road[1] not in lot and road[1] in world for road in roads):
        return False
    if state[0] == "sends":
        return world.owners[state[1]] in lot
    if state[1] == "reply":
        return any(world.owes(other) == thread for other in lot)
    gates = [gate for gate, owner in enumerate(world.owners) if owner == thread] if state[1] == "any" else [state[1]]
    if any(("device", gate) in roads for gate in gates):
        return False
    return all(road[1] in lot or road[1] not in world for road in roads if road[0] == "send" and road[2] in gates)


def is_stuck(world, roads, lot):
    return all(is_beside(world, roads, thread, lot) for thread in lot)


def distance(world, roads, thread):
    """How many rows lead to a thread, at the least: by lots of threads that are freed step by step."""
    def starts(one):
        state = world.state(one)
        if state[0] == "ready":
            return True
        if state[0] == "gone":
            return False
        if (state[5] if state[0] == "sends" else state[3]) is not None:
            return True
        gates = gates_of(one)
        return any(("device", gate) in roads for gate in gates)

    def gates_of(one):
        state = world.state(one)
        if state[0] != "receives" or state[1] == "reply":
            return []
        return [gate for gate, owner in enumerate(world.owners) if owner == one and state[1] in ("any", gate)]

    def leads(one, other):
        state = world.state(other)
        return (("break", one, other) in roads or any(("send", one, gate) in roads for gate in gates_of(other)) or world.owes(one) == other
                or (state[0] == "sends" and world.owners[state[1]] == one))

    free, steps = {one for one in range(6) if starts(one)}, 1
    while thread not in free:
        free |= {other for other in range(6) if other in world and any(leads(one, other) for one in free)}
        steps += 1
        assert steps < 8
    return steps


if __name__ == "__main__":
    unittest.main()
