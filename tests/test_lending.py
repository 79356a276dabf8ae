import random
import unittest

from helpers import ANY_VALUES, Checks, is_int, nested
from clankernel.errors import BadTicks, NoThread
from clankernel.lending import lent, payer, runs_again, shares, shows_lent
from clankernel.turns import Turns, who_runs

WRONG_THREADS = (-1, 4, True, False, None, "0", (0,), [0])
CHAIN = Turns("manner slices\nthread 0 1 5 5\nthread 0 2 5 5\nthread 0 6 5 5\nthread 0 4 5 5\nrow 0 3\nwaits 1 0\ncalls 2 1")
# Threads 1, 2 and 3 hang on one another, and nobody else on them.
RING = Turns("manner slices\nthread 0 7 5 5\nthread 0 2 5 5\nthread 0 6 5 5\nthread 0 4 5 5\nrow 0\nwaits 1 2\ncalls 2 3\nwaits 3 1")


def turns(manner, threads, row, *links):
    head = ["manner slices"] if manner == "" else ["manner table " + manner, "at 0"]
    lines = head + [f"thread {task} {priority} {whole} {left}" for task, priority, whole, left in threads]
    return Turns("\n".join(lines + [row] + list(links)))


def some_turns(seed):
    chance = random.Random(seed)
    many = chance.randrange(1, 9)
    threads = []
    for _ in range(many):
        whole = chance.randrange(1, 7)
        threads.append((chance.randrange(3), chance.randrange(chance.choice((2, 8))), whole, chance.randrange(1, whole + 1)))
    row = [thread for thread in range(many) if chance.random() < 0.6]
    chance.shuffle(row)
    links, called = [], set()
    for thread in range(many):
        other = chance.randrange(many)
        if thread in row or other == thread or chance.random() < 0.2:
            continue
        word = "waits" if other in called else chance.choice(("waits", "calls"))
        if word == "calls":
            called.add(other)
        links.append(f"{word} {thread} {other}")
    manner = chance.choice(("", "", "0 2 1 1", "2 3", "0 1 1 1 2 1 0 2"))
    return turns(manner, threads, " ".join(["row"] + [str(thread) for thread in row]), *links)


def links_of(told):
    return dict(told.waits + told.calls)


class LentTest(unittest.TestCase, Checks):
    def test_a_chain_of_some_steps(self):
        self.same([lent(CHAIN, thread) for thread in range(4)], [(6, (0, 1, 2)), (6, (1, 2)), (6, (2,)), (4, (3,))])

    def test_a_ring(self):
        self.same(lent(RING, 0), (7, (0,)))
        for thread in (1, 2, 3):
            priority, chain = lent(RING, thread)
            self.same((priority, chain[0], chain[-1]), (6, thread, 2))
            self.assertIs(shows_lent(RING, thread, (priority, chain)), True)

    def test_errors(self):
        for call in (lent, payer, runs_again):
            for thread in WRONG_THREADS:
                self.fails(NoThread, thread, call, CHAIN, thread)
        for thread in WRONG_THREADS:
            self.fails(NoThread, thread, shows_lent, CHAIN, thread, None)

    def test_shown(self):
        for right in ((6, (0, 1, 2)),):
            self.assertIs(shows_lent(CHAIN, 0, right), True)
        for value in ((5, (0, 1, 2)), (7, (0, 1, 2)), (6, [0, 1, 2]), [6, (0, 1, 2)], (6, (0, 1)), (6, (0, 2)), (6, (1, 2)), (6, (2,)),
                      (6, ()), (6, (0, 1, 2, 2)), (6, (0, 1, 2, 0)), (6, (0, 3)), (2, (0, 1)), (1, (0,)), (6, (0, 1, 2), 0), (6,), (),
                      (6, 0), (6, (0, 1, 4)), (6, (0, -1)), (6, (False, 1, 2)), (6, (0, True, 2)), ("6", (0, 1, 2)), (6.0, (0, 1, 2)),
                      (True, (0, 1, 2)), (6, (0, (1,), 2)), (6, ([0], 1, 2)), (6, (0, None, 2)), (6, nested(29))):
            self.assertIs(shows_lent(CHAIN, 0, value), False, value)
        for value in ANY_VALUES:
            self.assertIs(shows_lent(CHAIN, 0, value), False)
            self.assertIs(shows_lent(CHAIN, 0, (value, (0, 1, 2))), False)
            self.assertIs(shows_lent(CHAIN, 0, (6, value)), False)

    def test_true_is_no_priority(self):
        one = turns("", ((0, 1, 5, 5), (0, 0, 5, 5)), "row 0 1")
        self.assertIs(shows_lent(one, 0, (1, (0,))), True)
        for value in ((True, (0,)), (1, (False,))):
            self.assertIs(shows_lent(one, 0, value), False)
        self.assertIs(shows_lent(one, 1, (False, (1,))), False)
        self.assertIs(shows_lent(one, 1, (0, (True,))), False)

    def test_any_chain_of_several(self):
        many = turns("", ((0, 1, 5, 5), (0, 6, 5, 5), (0, 6, 5, 5), (0, 2, 5, 5)), "row 0", "waits 1 3", "waits 2 0", "waits 3 0")
        for chain, right in (((0, 2), True), ((0, 3, 1), True), ((0, 1), False), ((0, 3), False), ((0, 2, 1), False)):
            self.assertIs(shows_lent(many, 0, (6, chain)), right)
        # Round a ring a chain may go on to the next one of the greatest priority.
        self.assertIs(shows_lent(RING, 2, (6, (2,))), True)
        self.assertIs(shows_lent(RING, 2, (6, (2, 1))), False)
        self.assertIs(shows_lent(RING, 1, (6, (1, 3, 2))), True)
        self.assertIs(shows_lent(RING, 1, (6, (1, 3, 2, 1, 3, 2))), False)

    def test_beside_who_runs(self):
        for seed in range(200):
            told = some_turns(seed)
            links = links_of(told)
            ranks = []
            for thread in range(len(told.threads)):
                priority, chain = lent(told, thread)
                self.assertIs(shows_lent(told, thread, (priority, chain)), True)
                self.assertEqual(len(set(chain)), len(chain))
                self.assertTrue(all(links[chain[at]] == chain[at - 1] for at in range(1, len(chain))))
                self.assertEqual(priority, max(told.threads[other][1] for other in range(len(told.threads))
                                               if leads(links, other, thread)))
                ranks.append(priority)
            if told.text.startswith("manner slices") and told.row:
                self.assertEqual(ranks[told.next], max(ranks[thread] for thread in told.row))


def leads(links, thread, target):
    for _ in range(9):
        if thread == target:
            return True
        thread = links.get(thread)
    return False


class PayerTest(unittest.TestCase, Checks):
    def test_payer(self):
        self.same([payer(CHAIN, thread) for thread in range(4)], [(0, (0,)), (2, (1, 2)), (2, (2,)), (3, (3,))])
        calls = turns("", ((0, 1, 5, 5),) * 4, "row 0", "calls 1 0", "calls 2 1", "waits 3 2")
        self.same([payer(calls, thread) for thread in range(4)], [(2, (0, 1, 2)), (2, (1, 2)), (2, (2,)), (3, (3,))])

    def test_a_ring(self):
        ring = turns("", ((0, 1, 5, 5),) * 4, "row 0", "calls 1 2", "calls 2 3", "calls 3 1")
        self.same([payer(ring, thread) for thread in range(4)], [(thread, (thread,)) for thread in range(4)])

    def test_who_has_less_left(self):
        for seed in range(200):
            told = some_turns(seed)
            if told.next is not None:
                paid = payer(told, told.next)[0]
                for thread, (ahead, behind) in enumerate(zip(told.threads, told.passed().threads)):
                    left = ahead[3] - (1 if thread == paid else 0)
                    self.assertEqual(behind[3], left if left > 0 else ahead[2])


class RunsAgainTest(unittest.TestCase, Checks):
    def test_by_slices(self):
        alike = turns("", ((0, 4, 3, 2), (0, 4, 5, 5), (0, 4, 20, 1), (0, 3, 5, 5), (0, 5, 5, 5)), "row 1 0 2 3")
        self.same([runs_again(alike, thread) for thread in range(5)],
                  [("within", 5), ("within", 0), ("within", 7), ("never", (0, 1, 2)), ("never", ())])
        self.same(runs_again(CHAIN, 0), ("within", 0))
        self.same(runs_again(CHAIN, 3), ("never", (0,)))
        # Not ready: whoever is greater.
        self.same([runs_again(CHAIN, thread) for thread in (1, 2)], [("never", ())] * 2)

    def test_who_is_lent_more(self):
        told = turns("", ((0, 1, 5, 5), (0, 4, 5, 5), (0, 3, 5, 5), (0, 7, 5, 5)), "row 1 0 2", "waits 3 2")
        self.same([runs_again(told, thread) for thread in range(3)], [("never", (1, 2)), ("never", (2,)), ("within", 0)])

    def test_by_table(self):
        threads = ((0, 4, 3, 3), (0, 4, 5, 2), (1, 7, 5, 5), (0, 3, 5, 5), (2, 7, 5, 5), (0, 7, 5, 5))
        told = turns("1 3 0 2 5 4", threads, "row 4 2 1 0 3")
        self.same([runs_again(told, thread) for thread in range(6)],
                  [("within", 12), ("within", 3), ("within", 0), ("never", (0, 1)), ("never", ()), ("never", ())])
        # By table nothing is lent, and greater ones of other tasks keep nobody.
        lends = turns("0 1 1 1", ((0, 1, 5, 5), (0, 4, 5, 5), (1, 7, 5, 5)), "row 0 1", "waits 2 0")
        self.same([runs_again(lends, thread) for thread in range(3)], [("never", (1,)), ("within", 0), ("never", ())])

    def test_far_away_by_table(self):
        threads = ((0, 4, 20, 20),) * 7 + ((0, 4, 1, 1),)
        told = turns("0 1" + " 1 20" * 7, threads, "row 0 1 2 3 4 5 6 7")
        self.same(runs_again(told, 7), ("within", 140 * 141))

    def test_beside_who_runs(self):
        seen = set()
        for seed in range(300):
            told = some_turns(seed)
            ran = who_runs(told, 400)
            for thread in range(len(told.threads)):
                word, value = runs_again(told, thread)
                if word == "within":
                    self.assertEqual(ran.index(thread), value)
                else:
                    self.assertNotIn(thread, ran)
                    self.assertEqual(value, self.ahead(told, thread))
                seen.add((word, bool(value)))
        self.assertEqual(len(seen), 4)

    def ahead(self, told, thread):
        """Who keeps a thread from running that never runs, looked at one by one."""
        if thread not in told.row:
            return ()
        if told.text.startswith("manner slices"):
            return tuple(sorted(other for other in told.row if lent(told, other)[0] > lent(told, thread)[0]))
        task, priority = told.threads[thread][:2]
        if str(task) not in told.text.split("\n")[0].split(" ")[2::2]:
            return ()
        return tuple(sorted(other for other in told.row if told.threads[other][0] == task and told.threads[other][1] > priority))


class SharesTest(unittest.TestCase, Checks):
    def test_shares(self):
        self.same(shares(CHAIN, 0), ((0, 0),) * 4)
        calls = turns("", ((0, 1, 2, 2), (0, 1, 3, 3), (0, 1, 9, 9)), "row 0 2", "calls 1 0")
        self.same(shares(calls, 4), ((3, 0), (0, 3), (1, 1)))

    def test_beside_who_runs(self):
        for seed in range(100):
            told = some_turns(seed)
            for ticks in (1, 17, 400):
                ran = who_runs(told, ticks)
                rows = shares(told, ticks)
                self.same([row[0] for row in rows], [ran.count(thread) for thread in range(len(told.threads))])
                self.same([row[1] for row in rows],
                          [sum(1 for at in ran if at is not None and payer(told, at)[0] == thread)
                           for thread in range(len(told.threads))])
                for at in (0, 1):
                    self.assertEqual(sum(row[at] for row in rows), ticks - ran.count(None))

    def test_errors(self):
        for ticks in ANY_VALUES + (-1, 401):
            if not is_int(ticks, 0, 400):
                self.fails(BadTicks, ticks, shares, CHAIN, ticks)


if __name__ == "__main__":
    unittest.main()
