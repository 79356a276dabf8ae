import random
import unittest

from helpers import ANY_VALUES, Checks
from programs import paged_system, system
from clankernel.asm import Program
from clankernel.cells import Cell, memory_of, run_rows
from clankernel.errors import BadCalls, BadServer
from clankernel.kernel import Kernel
from clankernel.ledger import call_pairs, ledger
from clankernel.rows import word_of
from clankernel.servers import served, server
from clankernel.systems import System
from clankernel.traces import told_rows, words_to

NAMES = ("echo", "counter", "line", "names", "pager")
SERVED = NAMES[:4]


class ProgramTest(unittest.TestCase, Checks):
    def test_programs(self):
        for name in NAMES:
            program = server(name)
            self.assertIsInstance(program, Program)
            self.assertTrue(program == server(name=name))
            self.assertTrue(all(address < 128 for address, _ in program.words))
            self.assertEqual(program.words[0][0], 0)

    def test_wrong_names(self):
        for value in ANY_VALUES + ("Echo", "pagers", "counter ", ["echo"], ("echo",)):
            self.fails(BadServer, value, server, value)
            self.fails(BadServer, value, served, value, ())
            self.fails(BadServer, value, served, value, None)
        self.fails(BadServer, "pager", served, "pager", ())
        self.fails(BadServer, "pager", served, "pager", 7)

    def test_wrong_calls(self):
        words = (1, 2, 3, 4)
        for name in SERVED:
            for value in ANY_VALUES:
                if value != ():
                    self.fails(BadCalls, value, served, name, value)
                self.fails(BadCalls, (value,), served, name, (value,))
                if value is not None and not (type(value) is int and 0 <= value <= 999):
                    self.fails(BadCalls, ((value, words),), served, name, ((value, words),))
                self.fails(BadCalls, ((0, value),), served, name, ((0, value),))
            for value in (((1000, words),), ((-1, words),), ((65535, words),), ((0, words[:3]),), ((0, words + (5,)),), ((0, (1, 2, 3, 65536)),),
                          ((0, (1, 2, 3, -1)),), ((0, list(words)),), ([0, words],), [(0, words)], ((0, words),) * 41, ((0, (1, 2, 3, True)),)):
                self.fails(BadCalls, value, served, name, value)
            self.same(served(name, ()), ())
            self.assertEqual(len(served(calls=((None, words),) * 40, name=name)), 40)


class TableTest(unittest.TestCase, Checks):
    """What the answers are, by the tables."""

    def test_echo(self):
        calls = ((None, (0, 0, 0, 0)), (5, (65535, 1, 2, 3)), (999, (1, 1, 1, 1)))
        self.same(served("echo", calls), ((0, 0, 0, 0), (65535, 1, 2, 3), (1, 1, 1, 1)))

    def test_counter(self):
        calls = tuple((None, words) for words in ((2, 7, 7, 7), (1, 65535, 0, 0), (1, 1, 9, 9), (1, 0, 0, 0), (2, 0, 0, 0), (0, 1, 1, 1), (3, 1, 1, 1), (65535, 1, 1, 1), (1, 5, 0, 0)))
        self.same(served("counter", calls), ((0, 0, 0, 0), (0, 0, 65535, 1), (0, 65535, 0, 2), (0, 0, 0, 3), (0, 0, 0, 3), (1, 0, 0, 0), (1, 0, 0, 0), (1, 0, 0, 0), (0, 0, 5, 4)))

    def test_line(self):
        puts = tuple((number, (1, number, 0, 65535)) for number in range(9))
        takes = ((None, (2, 9, 9, 9)),)
        self.same(served("line", puts), tuple((0, number, 0, 0) for number in range(1, 9)) + ((2, 0, 0, 0),))
        self.same(served("line", puts + takes * 9)[9:], tuple((number, number, 0, 65535) for number in range(8)) + ((65534, 0, 0, 0),))
        # What was taken makes room; the first one goes first.
        again = served("line", puts + takes + ((None, (1, 5, 6, 7)), (7, (1, 1, 1, 1))) + takes * 8)
        self.same(again[10:12], ((0, 8, 0, 0), (2, 0, 0, 0)))
        self.same(again[-1], (65535, 5, 6, 7))
        self.same(served("line", takes + ((3, (0, 1, 1, 1)), (3, (3, 1, 1, 1)))), ((65534, 0, 0, 0), (1, 0, 0, 0), (1, 0, 0, 0)))

    def test_names(self):
        tell, ask, drop = (lambda key, value: (None, (1, key, value, 9))), (lambda key: (None, (2, key, 9, 9))), (lambda key: (None, (3, key, 9, 9)))
        eight = tuple(tell(key, key * 100) for key in range(1, 9))
        self.same(served("names", eight + (tell(9, 1), tell(8, 1), ask(8), ask(9))), ((0, 0, 0, 0),) * 8 + ((2, 0, 0, 0), (0, 0, 0, 0), (0, 1, 0, 0), (3, 0, 0, 0)))
        self.same(served("names", eight + (drop(3), tell(9, 65535), ask(9), ask(3), drop(3), ask(8), tell(3, 1))),
                  ((0, 0, 0, 0),) * 10 + ((0, 65535, 0, 0), (3, 0, 0, 0), (3, 0, 0, 0), (0, 800, 0, 0), (2, 0, 0, 0)))
        self.same(served("names", (tell(0, 5), ask(0), drop(0), (None, (0, 1, 1, 1)), (None, (4, 1, 1, 1)), ask(1), drop(1), tell(1, 0), ask(1))),
                  ((1, 0, 0, 0),) * 5 + ((3, 0, 0, 0), (3, 0, 0, 0), (0, 0, 0, 0), (0, 0, 0, 0)))


class Machine:
    """A server's program in a memory, whose calls of the kernel are answered by hand."""

    def __init__(self, name):
        self.name = name
        self.memory = memory_of(server(name).words)
        self.cell = Cell((0,) * 8, 0)
        self.go_on()

    def go_on(self):
        """Run up to the next call: what it answered, None if it answers nothing."""
        _, self.cell, self.memory, end = run_rows(self.cell, self.memory, 400)
        assert end == ("call", 0), end
        to, source, limits, *words, items = self.cell.registers
        assert to in (254, 255) and source == 254 and limits % 256 == 255 and items == 0, self.cell.registers
        return tuple(words) if to == 254 else None

    def call(self, badge, words, result=0, gate=0, came=0, turned=0):
        told = (result, 65535 if badge is None else badge, gate + 16 * came, *words, turned)
        self.cell = Cell(told, self.cell.place)
        return self.go_on()

    def put(self, label, word):
        """Set the word at a label of the program."""
        at = dict(server(self.name).names)[label]
        self.memory = (*self.memory[:at], word, *self.memory[at + 1:])

    def not_owed(self):
        """Its answer met nobody: 8, and it waits for the next call alone."""
        self.cell = self.cell.with_register(0, 8)
        assert self.go_on() is None


def random_calls(rng, name, many):
    calls = []
    for _ in range(many):
        first = rng.choice([0, 1, 1, 1, 2, 2, 3, 3, 4, 65535])
        key = rng.choice([0, 1, 2, 3, 4, 5, 6, 7, 8, 9, 10, 65535]) if name == "names" else rng.randrange(65536)
        badge = rng.choice([None, 0, 7, 999])
        calls.append((badge, (first, key, rng.randrange(65536), rng.randrange(65536))))
    return tuple(calls)


class MachineTest(unittest.TestCase, Checks):
    def test_random_calls(self):
        rng = random.Random(5)
        for name in SERVED:
            for _ in range(60):
                calls = random_calls(rng, name, 40)
                machine = Machine(name)
                answers = []
                for badge, words in calls:
                    told = {"result": rng.choice([0, 10]), "gate": rng.randrange(12), "came": rng.randrange(17), "turned": rng.choice([0, 32768 + 16 * 5 + 3])}
                    answers.append(machine.call(badge, words, **told))
                    if rng.random() < 0.2:
                        machine.not_owed()
                self.same(tuple(answers), served(name, calls))

    def test_counts_beyond_65535(self):
        machine = Machine("counter")
        machine.put("many", 65535)
        machine.put("total", 65530)
        self.same(machine.call(None, (1, 10, 0, 0)), (0, 65530, 4, 0))
        self.same(machine.call(None, (2, 0, 0, 0)), (0, 4, 4, 0))

    def test_lines_that_go_round(self):
        machine, calls = Machine("line"), []
        for number in range(200):
            calls.append((number, (1, number, number + 1, number + 2)) if number % 3 else (None, (2, 0, 0, 0)))
        got = [machine.call(badge, words) for badge, words in calls]
        held, told = [], []
        for badge, words in calls:
            if words[0] == 2:
                told.append(held.pop(0) if held else (65534, 0, 0, 0))
            elif len(held) == 8:
                told.append((2, 0, 0, 0))
            else:
                held.append((badge, *words[1:]))
                told.append((0, len(held), 0, 0))
        self.same(got, told)

    def test_what_ends_a_wait_otherwise_is_no_call(self):
        for name in NAMES:
            for number in (2, 4, 6, 7, 8):
                machine = Machine(name)
                machine.cell = machine.cell.with_register(0, number)
                self.assertIsNone(machine.go_on())


class KernelTest(unittest.TestCase, Checks):
    def check(self, name, clients, gates=1):
        events = Kernel(system(name, clients, gates)).run(400)
        rows = told_rows(events)
        book = ledger(rows)
        got = [(number, row) for number, row in enumerate(book) if row[2] == 0]
        calls = tuple((row[4], row[5]) for _, row in got)
        answers = served(name, calls)
        pairs = dict(call_pairs(rows))
        answered = 0
        for (number, row), answer in zip(got, answers):
            if row[0] == "sent":
                continue
            if pairs[number] is None:
                # Only the last one may still be in work.
                self.assertEqual(number, got[-1][0])
            else:
                self.same(book[pairs[number]][5], answer)
                answered += 1
        # In the sequence in which they were met, each client's in its own.
        for thread, told in enumerate(clients, start=1):
            mine = [words for (_, row), (_, words) in zip(got, calls) if row[1] == thread]
            self.same(tuple(mine), tuple(told[1])[:len(mine)])
        return answered, len(got), events

    def test_one_client(self):
        rng = random.Random(7)
        for name in SERVED:
            calls = tuple(words for _, words in random_calls(rng, name, 6))
            answered, many, events = self.check(name, ((5, calls, True),))
            self.assertEqual((answered, many), (6, 6))
            self.assertEqual(len(words_to(events, 1)), 6)

    def test_two_clients_and_more(self):
        rng = random.Random(8)
        for name in SERVED:
            for _ in range(4):
                clients = tuple((badge, tuple(words for _, words in random_calls(rng, name, 4)), True) for badge in (None, 0))
                answered, _, _ = self.check(name, clients, rng.randint(1, 2))
                self.assertGreaterEqual(answered, 6)

    def test_who_does_not_wait_for_an_answer(self):
        rng = random.Random(9)
        for name in SERVED:
            for _ in range(3):
                clients = ((3, tuple(words for _, words in random_calls(rng, name, 4)), False), (None, tuple(words for _, words in random_calls(rng, name, 4)), True))
                answered, many, events = self.check(name, clients)
                self.assertGreaterEqual(answered, 3)
                self.assertEqual(words_to(events, 1), ())
                self.assertIn(("result", 0, 8), {event[1:] for event in events})

    def test_a_caller_that_goes_late_is_not_answered_and_the_next_one_is(self):
        text = system("echo", ((3, ((1, 2, 3, 4),), True), (4, ((5, 6, 7, 8),), True))).text
        # The first client waits one tick for its answer.
        late = text.replace(str(word_of(("high", 2, 255))), str(word_of(("set", 2, 0))), 1)
        events = Kernel(System(late)).run(150)
        self.assertNotEqual(late, text)
        self.assertEqual(words_to(events, 2), ((5, 6, 7, 8),))


class PagerTest(unittest.TestCase, Checks):
    def seen(self, kernel):
        """The memory of the four pages, as thread 1 sees it: what stands in its frames, else what is held."""
        words = []
        for page in range(4):
            for at in range(16):
                word = kernel.read(2, 16 * page + at)
                words.append(kernel.read(1, 128 + 16 * page + at) if word is None else word)
        return tuple(words) + (0,) * 192

    def follow(self, program, ticks=400):
        """Run it, and compare with run_rows at each row that it does: (rows done, pages brought)."""
        told, memory = paged_system(program)
        kernel = Kernel(told)
        done, pages = 0, []
        for _ in range(ticks):
            for event in kernel.run(1):
                if event[1:3] == ("row", 1):
                    done += 1
                if event[1] == "fault" and event[2] == 1:
                    if event[3][0] != "page":
                        self.same(run_rows(Cell((0,) * 8, 0), memory, done + 1)[3], event[3] if event[3][0] == "trap" else ("fault",) + event[3])
                        return done, pages
                    pages.append(event[3][2] // 16)
            if kernel.state(1) == "ready":
                rows, cell, words, _ = run_rows(Cell((0,) * 8, 0), memory, done)
                self.assertEqual(rows, done)
                self.assertTrue(cell == kernel.cell(1))
                self.same(self.seen(kernel), words)
        return done, pages

    def test_loads_and_stores_in_four_pages(self):
        program = "set r1 20\nset r2 40\nset r3 60\nload r0 r1 0\nstore r0 r2 0\nload r4 r2 0\nstore r4 r3 0\nadd r4 r0\nstore r4 r1 1\nat 20\nword 77\nat 48\nword 1\nword 2"
        done, pages = self.follow(program)
        self.assertGreaterEqual(done, 4)
        self.assertGreaterEqual(len(pages), 4)

    def test_pages_of_rows_alone(self):
        program = "set r0 1\njump 16\nat 16\nadd r0 r0\njump 32\nat 32\nadd r0 r0\njump 48\nat 48\nadd r0 r0\njump 0"
        done, pages = self.follow(program)
        self.assertEqual(pages[:4], [0, 1, 2, 3])
        self.assertGreaterEqual(done, 6)

    def test_a_row_that_needs_two_pages_at_once(self):
        # Page 0 is in the first frame; its row stores in pages 1 and 2 in turn.
        program = "set r1 16\nset r2 32\nset r0 9\nstore r0 r1 0\nstore r0 r2 0\nstore r0 r1 1\ntrap 5"
        done, pages = self.follow(program)
        self.assertEqual(pages[:4], [0, 1, 2, 0])

    def test_random_programs(self):
        rng = random.Random(11)
        for _ in range(6):
            lines = []
            for page in range(4):
                lines.append(f"at {16 * page}")
                for _ in range(14):
                    kind = rng.choice(["load", "store", "set", "set", "add"])
                    if kind in ("load", "store"):
                        lines.append(f"{kind} r{rng.randrange(4)} r{rng.randrange(4, 8)} {rng.randrange(4)}")
                    elif kind == "set":
                        lines.append(f"set r{rng.randrange(4, 8)} {rng.randrange(60)}")
                    else:
                        lines.append(f"add r{rng.randrange(4)} r{rng.randrange(8)}")
                lines.append(f"jump {16 * rng.randrange(4)}")
            done, _ = self.follow("\n".join(lines))
            self.assertGreater(done, 10)

    def test_frames_by_turns(self):
        told, _ = paged_system("jump 16\nat 16\njump 32\nat 32\njump 48\nat 48\njump 0")
        kernel = Kernel(told)
        seen = []
        while len(seen) < 4 and kernel.tick < 400:
            for event in kernel.run(1):
                if event[1] == "pages":
                    seen.append((kernel.tick, [page for page in kernel.spaces.pages if page[0] == 2]))
        held = [pages for _, pages in seen if pages]
        self.same(held[0], [(2, 0, 12, "rwx")])
        self.same(held[1], [(2, 0, 12, "rwx"), (2, 1, 13, "rwx")])
        # The first one is taken back, ahead of the third one.
        self.same(held[2], [(2, 1, 13, "rwx")])
        self.same(held[3], [(2, 1, 13, "rwx"), (2, 2, 12, "rwx")])

    def test_answers(self):
        told, _ = paged_system("set r0 1\ntrap 0")
        kernel = Kernel(told)
        events = kernel.run(200)
        replies = [event for event in events if event[1:3] == ("met", "replied")]
        self.same([event[3:] for event in replies], [(0, 1, None, None, (0, 0, 0, 0))])

    def test_all_else_is_not_answered(self):
        """Faults of other pages, of other kinds, words that are no fault's: nothing is told, and what comes next is."""
        for program, doors in (("set r1 64\nload r0 r1 0", "doors 1 0 -"), ("trap 9", "doors 1 0 0"), ("high r1 1\nload r0 r1 9", "doors 1 0 0"), ("word 0", "doors 1 0 0")):
            told, _ = paged_system(program)
            kernel = Kernel(System(told.text.replace("doors 1 0 -", doors)))
            events = kernel.run(200)
            faults = [event for event in events if event[1] == "fault"]
            self.assertEqual(len(faults), 2)
            self.assertEqual(len([event for event in events if event[1:3] == ("met", "replied")]), 1)
            self.assertEqual((kernel.state(1), kernel.state(0)), ("faults", "receives"))

    def test_words_that_are_no_faults(self):
        fine = [(1, 0, 0, 0), (2, 63, 255, 0), (3, 17, 17, 0)]
        wrong = [(0, 0, 0, 0), (4, 0, 0, 0), (5, 1, 1, 0), (7, 9, 20, 0), (65535, 0, 0, 0), (1, 64, 0, 0), (2, 255, 0, 0), (3, 64, 64, 0), (1, 65535, 0, 0), (1, 0, 256, 0),
                 (2, 3, 65535, 0), (1, 0, 0, 1), (3, 16, 16, 65535), (3, 17, 16, 0)]
        for words in wrong:
            machine = Machine("pager")
            self.assertIsNone(machine.call(7, words))
        for words in fine:
            machine = Machine("pager")
            machine.cell = Cell((0, 7, 0, *words, 0), machine.cell.place)
            done, cell, memory, end = run_rows(machine.cell, machine.memory, 400)
            self.same((end, cell.registers[0], cell.registers[3:7]), (("call", 0), 254, (0, 0, 0, 0)))
            self.assertNotEqual(cell.registers[7], 0)
            at = cell.registers[7]
            # A map of page 12 with rwx, any hot spot, and nothing else.
            self.same(memory[at:at + 3] + memory[at + 4:at + 5], (2, 32 * 12 + 1, 7, 0))


if __name__ == "__main__":
    unittest.main()
