"""Rows at a kernel, in pages with and without each letter; faults, their doors, their answers."""

import random
import unittest

from helpers import Checks
from stage import (
    CODE, DIV, GO, HEAD, LOAD, NO_ROW, PAGES, RIGHTS, SET, STORE, TRAP, act, by_place, edited, limits, receiving, sixteen, stage,
    told_by)
from clankernel.cells import Cell, run_rows
from clankernel.kernel import Kernel
from clankernel.rows import word_of
from clankernel.systems import System

LETTERS = ("r", "rw", "rwx", "rx", "w", "wx", "x")
# Of each fault how it comes: the place, registers, the fault, its words.
FAULTS = (
    (LOAD, (0, 64), ("page", "r", 64), (1, 64, LOAD, 0)),
    (STORE, (0, 255), ("page", "w", 255), (2, 255, STORE, 0)),
    (100, (), ("page", "x", 100), (3, 100, 100, 0)),
    (LOAD, (0, 256), ("beyond", 256), (4, 256, LOAD, 0)),
    (STORE, (0, 65535), ("beyond", 65535), (4, 65535, STORE, 0)),
    (GO, (0, 256), ("beyond", 256), (4, 256, GO, 0)),
    (NO_ROW, (), ("row", 0), (5, 0, NO_ROW, 0)),
    (DIV, (5, 0), ("nought", DIV), (6, DIV, DIV, 0)),
    (TRAP, (), ("trap", 9), (7, 9, TRAP, 0)),
)


def whole(words, place=0):
    """A kernel of one thread of the root, which has these 256 words."""
    lines = ["frames 16", "task 0 -", f"thread 0 0 {place} 4 20 ready"]
    lines += ["words {} {}".format(frame, " ".join(map(str, words[16 * frame:16 * frame + 16]))) for frame in range(16)]
    return Kernel(System("\n".join(lines + ["turns slices"])))


class RowsTest(unittest.TestCase, Checks):
    def test_random_rows_beside_run_rows(self):
        rng = random.Random(1)
        kinds = [("set", 2), ("high", 2), ("add", 3), ("sub", 3), ("mul", 3), ("copy", 3), ("div", 3), ("rem", 3), ("xor", 3), ("shl", 3),
                 ("shr", 3), ("load", 4), ("store", 4), ("jump", 1), ("zero", 2), ("some", 2), ("less", 3), ("same", 3), ("link", 2), ("go", 2)]
        ends = set()
        for _ in range(150):
            words = []
            for _ in range(256):
                name, parts = rng.choice(kinds)
                if name == "jump":
                    row = (name, rng.randrange(256))
                elif name in ("load", "store"):
                    row = (name, rng.randrange(8), rng.randrange(8), rng.randrange(64))
                elif name in ("set", "high", "zero", "some", "link"):
                    row = (name, rng.randrange(8), rng.randrange(256))
                elif name == "go":
                    row = (name, rng.randrange(8))
                else:
                    row = (name, rng.randrange(8), rng.randrange(8))
                words.append(word_of(row) if rng.random() < 0.98 else rng.choice([0, word_of(("trap", 3)), word_of(("call", 9))]))
            kernel = whole(words)
            done, cell, memory, end = run_rows(Cell((0,) * 8, 0), tuple(words), 40)
            ends.add(end[:2] if end[0] == "fault" else end[0])
            if done > 0:
                kernel.run(done)
            if end[0] == "call":
                cell = cell.with_register(0, 11)
            self.assertTrue(kernel.cell(0) == cell)
            self.same(tuple(kernel.word(at // 16, at % 16) for at in range(256)), memory)
            if end[0] == "fault":
                self.same(kernel.run(1)[0][1:], ("fault", 0, end[1:]))
                self.assertTrue(kernel.cell(0) == cell)
        self.assertEqual(ends, {"ticks", "call", "trap", ("fault", "row"), ("fault", "beyond"), ("fault", "nought")})

    def test_each_letter(self):
        """A row in page 1, and what it loads or stores in page 2, with each letters, and with nothing."""
        load, store, plain = word_of(("load", 0, 1, 0)), word_of(("store", 0, 1, 0)), word_of(("set", 0, 7))
        for row in LETTERS + (None,):
            for data in LETTERS + (None,):
                pages = ["page 1 0 rx 0 0"] + [f"page 1 {page} {letters} 0 {page + 1}" for page, letters in ((1, row), (2, data)) if letters]
                kernel = stage(pages=pages, words={2: sixteen(load, store, plain), 3: sixteen(41, 42)})
                lacks = None if row and "x" in row else "x"
                for place, letter in ((16, "r"), (17, "w"), (18, None)):
                    kind = lacks or (letter if letter and letter not in (data or "") else None)
                    later, events = act(kernel, 1, place, 5, 33)
                    if kind is None:
                        self.same(events, (("row", 1, place),))
                        self.assertEqual(later.cell(1).registers[0], {16: 42, 17: 5, 18: 7}[place])
                        self.assertEqual(later.word(3, 1), 5 if place == 17 else 42)
                        continue
                    self.same(events, (("fault", 1, ("page", kind, place if kind == "x" else 33)), ("rests", 1)))
                    self.assertEqual((later.cell(1).registers[0], later.cell(1).place, later.word(3, 1)), (5, place, 42))

    def test_words_of_shared_frames_are_one(self):
        kernel = stage(words={6: sixteen()})
        kernel, _ = act(kernel, 1, STORE, 77, 32)
        self.assertEqual((kernel.read(2, 32), kernel.word(6, 0), kernel.read(0, 96)), (77, 77, 77))
        kernel, _ = act(kernel, 2, LOAD, 0, 32)
        self.assertEqual(kernel.cell(2).registers[0], 77)

    def test_a_row_that_is_written_is_done_next(self):
        kernel = whole([word_of(("store", 0, 1, 1))] + [0] * 255)
        kernel = edited(kernel, {0: (0, (word_of(("set", 2, 9)),))})
        self.same(kernel.run(2), ((1, "row", 0, 0), (2, "row", 0, 1)))
        self.assertEqual(kernel.cell(0).registers[2], 9)

    def test_behind_255_comes_0(self):
        kernel = whole([word_of(("set", 0, 1))] * 256, 255)
        self.same(kernel.run(2), ((1, "row", 0, 255), (2, "row", 0, 0)))


class DoorsTest(unittest.TestCase, Checks):
    def rests(self, kernel, place, registers, fault):
        later, events = act(kernel, 1, place, *registers)
        row = (("row", 1, place),) if fault[0] == "trap" else ()
        self.same(events, row + (("fault", 1, fault), ("rests", 1)))
        self.assertEqual((later.state(1), later.turns.row, later.waits.state(1)), ("rests", (), ("ready",)))
        self.assertEqual(later.cell(1).place, place + 1 if fault[0] == "trap" else place)
        self.same(later.cell(1).registers[:len(registers)], registers)
        self.same(later.run(3), tuple((later.tick - 2 + at, "idle") for at in range(3)))

    def test_without_a_way_out_it_rests(self):
        """No door; the other door alone; no right there; a right to a task; a border without a gate."""
        for place, registers, fault, _ in FAULTS:
            page = fault[0] == "page"
            self.rests(stage(), place, registers, fault)
            self.rests(stage(doors=["doors 1 - 1" if page else "doors 1 1 -"]), place, registers, fault)
            self.rests(stage(doors=["doors 1 7 7"]), place, registers, fault)
            self.rests(stage(doors=["doors 1 10 10"]), place, registers, fault)
            # Task 1 reaches task 4 over the border of task 2 alone.
            self.rests(stage(doors=["doors 1 4 4"], head=HEAD.replace("\nborder 2 6", "")), place, registers, fault)

    def test_the_right_is_looked_up_as_the_fault_comes(self):
        kernel = stage(doors=["doors 1 2 2"])
        kernel, events = told_by(kernel, 1, 2, 3, 2)
        self.same(events[-1], ("result", 1, 0))
        self.rests(kernel, TRAP, (), ("trap", 9))
        kernel, _ = told_by(kernel, 1, 2, 0, 3, 2, 1)
        _, events = act(kernel, 1, TRAP)
        self.same(events, (("row", 1, TRAP), ("fault", 1, ("trap", 9))))

    def test_a_fault_is_met_as_a_call(self):
        for place, registers, fault, words in FAULTS:
            kernel = receiving(stage(doors=["doors 1 2 2"]), 2)
            kernel, events = act(kernel, 1, place, *registers)
            row = (("row", 1, place),) if fault[0] == "trap" else ()
            self.same(events, row + (("fault", 1, fault), ("met", "called", 1, 2, 2, 102, words)))
            self.same(kernel.cell(2).registers, (0, 102, 2, *words, 0))
            self.same(kernel.cell(1).registers[:len(registers)], registers)
            self.assertEqual((kernel.state(1), kernel.waits.state(1), kernel.waits.owes(2)), ("faults", ("receives", "reply", 2, None), 1))
            # The one who is called stands where the faulting one stood.
            self.assertEqual((kernel.turns.row, kernel.turns.calls), ((2,), ((1, 2),)))

    def test_a_fault_that_is_not_met_waits(self):
        for place, registers, fault, words in FAULTS:
            kernel, events = act(stage(doors=["doors 1 2 2"]), 1, place, *registers)
            row = (("row", 1, place),) if fault[0] == "trap" else ()
            self.same(events, row + (("fault", 1, fault),))
            self.assertEqual((kernel.state(1), kernel.waits.state(1)), ("faults", ("sends", 2, 102, words, 1, None, "reply", None)))
            self.assertEqual((kernel.turns.row, kernel.turns.waits), ((), ((1, 2),)))
            kernel.run(300)
            kernel, events = told_by(kernel, 2, 0, 255, 254, limits(0, 0))
            self.same(events, (("met", "called", 1, 2, 2, 102, words),))
            self.assertEqual((kernel.state(1), kernel.turns.waits, kernel.waits.owes(2)), ("faults", ((1, 2),), 1))

    def test_a_fault_over_its_own_gate_rests_in_turns(self):
        kernel, events = act(stage(doors=["doors 1 - 1"]), 1, TRAP)
        self.same(events, (("row", 1, TRAP), ("fault", 1, ("trap", 9))))
        self.assertEqual((kernel.state(1), kernel.turns.row, kernel.turns.waits, kernel.waits.state(1)[0]), ("faults", (), (), "sends"))

    def test_a_fault_over_a_border_is_turned(self):
        kernel = receiving(stage(doors=["doors 3 2 2"]), 1)
        # Task 3 reaches task 2 by its chief 1, over the border gate 5.
        kernel, events = act(kernel, 3, TRAP)
        self.same(events[1:], (("fault", 3, ("trap", 9)), ("met", "called", 3, 1, 5, 302, (7, 9, TRAP, 0)), ("passing", 1, 2, 302, 3)))
        self.same(kernel.cell(1).registers, (0, 302, 5, 7, 9, TRAP, 0, 32768 + 32 + 3))
        self.same(kernel.passing(1), (2, 302, 3))
        waiting, _ = act(stage(doors=["doors 3 2 2"]), 3, TRAP)
        self.assertEqual((waiting.waits.state(3)[:2], waiting.turns.waits), (("sends", 5), ((3, 1),)))


class AnswersTest(unittest.TestCase, Checks):
    def faulted(self, place, registers=(), pages=PAGES, words=None):
        """Thread 1 faults, and thread 2 has it."""
        kernel = receiving(stage(doors=["doors 1 2 2"], pages=pages, words=words), 2)
        kernel, _ = act(kernel, 1, place, *registers)
        self.assertEqual(kernel.state(1), "faults")
        return kernel

    def answered(self, kernel, words, items=0):
        return told_by(kernel, 2, 0, 254, 255, limits(0, 0), *words, items)

    def test_all_answers_but_of_pages(self):
        for place, registers, fault, _ in FAULTS[3:]:
            trap = fault[0] == "trap"
            for words, goes in (((0, 9, 9, 9), place + 1), ((1, 0, 0, 0), place), ((2, 0, 9, 9), 0), ((2, 255, 0, 0), 255),
                                ((2, 256, 0, 0), None), ((2, 65535, 0, 0), None), ((3, 0, 0, 0), None), ((65535, 1, 2, 3), None)):
                kernel, events = self.answered(self.faulted(place, registers), words)
                met = ("met", "replied", 2, 1, None, None, words)
                self.same(kernel.cell(1).registers[:len(registers)], registers)
                self.same(kernel.cell(1).registers[3:], (0,) * 5)
                if goes is None:
                    self.same(events, (met, ("rests", 1), ("result", 2, 0)))
                    self.assertEqual((kernel.state(1), kernel.turns.row), ("rests", (2,)))
                    self.assertEqual(kernel.cell(1).place, place + 1 if trap else place)
                else:
                    self.same(events, (met, ("result", 2, 0)))
                    self.assertEqual((kernel.state(1), kernel.turns.row, kernel.cell(1).place), ("ready", (1, 2), goes))

    def test_a_page_is_tried_again(self):
        for place, registers, _, _ in FAULTS[:3]:
            for words in ((0, 0, 0, 0), (1, 1, 1, 1), (2, 300, 0, 0), (9, 9, 9, 9)):
                kernel, events = self.answered(self.faulted(place, registers), words)
                self.same(events, (("met", "replied", 2, 1, None, None, words), ("result", 2, 0)))
                self.assertEqual((kernel.state(1), kernel.cell(1).place), ("ready", place))
                # Nothing was mapped: it faults anew.
                self.assertEqual(edited(kernel, row=(1,)).run(1)[0][1:3], ("fault", 1))

    def test_the_answer_behind_the_last_and_ahead_of_the_first_place(self):
        trap = word_of(("trap", 3))
        pages = by_place(PAGES + ["page 1 15 rwx 0 15"])
        for place, word, answer, goes in ((255, trap, (1, 0, 0, 0), 255), (255, trap, (0, 0, 0, 0), 0), (255, 0, (0, 0, 0, 0), 0)):
            kernel = self.faulted(place, pages=pages, words={15: sixteen()[:15] + [word]})
            kernel, _ = self.answered(kernel, answer)
            self.assertEqual(kernel.cell(1).place, goes)

    def test_pages_come_where_the_fault_was(self):
        # Items of thread 2 at 16: page 1 of task 2, frame 3, mapped with rw, any hot spot; the end.
        for letters, told, goes in ((1, "r", True), (3, "rw", True), (2, "w", False)):
            items = sixteen(2, 32 * 1 + 1, letters, 9)
            kernel = self.faulted(LOAD, (0, 64), words={3: items})
            kernel, events = self.answered(kernel, (0, 0, 0, 0), 16)
            self.same(events, (("met", "replied", 2, 1, None, None, (0, 0, 0, 0)), ("pages", ((1, 4),)), ("result", 2, 0)))
            self.assertIn((1, 4, 3, told), kernel.spaces.pages)
            later = edited(kernel, row=(1,))
            self.assertEqual(later.run(1)[0][1], "row" if goes else "fault")
            self.assertEqual(later.cell(1).registers[0], 2 if goes else 0)

    def test_the_window_is_the_one_page(self):
        # A block of two pages, its hot spot tells which of both comes.
        for spot, frame in ((0, 3), (1, 6), (6, 3), (15, 6)):
            others = [line for line in PAGES if line[:8] not in ("page 2 1", "page 2 2")]
            pages = by_place(others + ["page 2 8 rw 0 3", "page 2 9 rw 0 6"])
            kernel = self.faulted(LOAD, (0, 70), pages=pages, words={3: sixteen(3, 32 * 8 + 2, 1, spot)})
            kernel, events = self.answered(kernel, (0, 0, 0, 0), 128)
            # Granted, it is gone from the giver.
            self.same(events[1], ("pages", ((1, 4), (2, 8 if frame == 3 else 9))))
            self.assertIn((1, 4, frame, "r"), kernel.spaces.pages)

    def test_a_string_or_a_right_of_an_answer_is_left_out(self):
        items = sixteen(1, 16, 4, 0, 4, 3, 1, 65535, 2, 33, 1, 0)
        for place, registers, fault, _ in FAULTS:
            # What thread 1 told with its last call does not count: it rests at no call.
            kernel = self.faulted(place, registers, words={3: items})
            kernel, events = self.answered(kernel, (0, 0, 0, 0), 16)
            # The string of four words did not come: the one who answers is told so.
            pages = (("pages", ((1, fault[2] // 16),)),) if fault[0] == "page" else ()
            self.same(events, (("met", "replied", 2, 1, None, None, (0, 0, 0, 0)), *pages, ("result", 2, 10)))
            self.assertEqual(len(kernel.rights.rows), len(RIGHTS))

    def test_the_right_of_an_answer_is_left_out_alone(self):
        kernel = self.faulted(LOAD, (0, 64), words={3: sixteen(4, 3, 1, 65535)})
        kernel, events = self.answered(kernel, (0, 0, 0, 0), 16)
        self.same(events[1:], (("result", 2, 0),))

    def test_an_answer_to_one_that_waits_in_turns(self):
        kernel, _ = act(stage(doors=["doors 1 2 2"]), 1, TRAP)
        kernel, _ = told_by(kernel, 2, 0, 255, 254, limits(0, 0))
        self.assertEqual(kernel.turns.waits, ((1, 2),))
        rests, events = self.answered(kernel, (7, 0, 0, 0))
        self.same(events[1:], (("rests", 1), ("result", 2, 0)))
        self.assertEqual((rests.turns.row, rests.turns.waits, rests.state(1)), ((2,), (), "rests"))
        goes, _ = self.answered(kernel, (0, 0, 0, 0))
        self.assertEqual((goes.turns.row, goes.turns.waits, goes.state(1)), ((2, 1), (), "ready"))

    def test_the_answer_that_never_comes(self):
        """Who owes it takes another call: the fault is lost, and its thread rests."""
        kernel = receiving(self.faulted(TRAP), 2)
        kernel, events = told_by(kernel, 0, 0, 2, 253, limits(0, None), 1, 2, 3, 4)
        self.same(events, (("met", "called", 0, 2, 2, None, (1, 2, 3, 4)), ("rests", 1)))
        self.assertEqual((kernel.state(1), kernel.turns.row, kernel.turns.calls), ("rests", (2,), ((0, 2),)))
        self.assertEqual(kernel.cell(1).registers, (0,) * 8)

    def test_an_answer_by_a_message_that_goes_on(self):
        kernel = self.faulted(TRAP)
        kernel, events = told_by(kernel, 2, 0, 254, 254, limits(0, None), 0, 0, 0, 0)
        self.same(events, (("met", "replied", 2, 1, None, None, (0, 0, 0, 0)),))
        self.assertEqual((kernel.state(1), kernel.state(2), kernel.turns.row), ("ready", "receives", (1,)))


if __name__ == "__main__":
    unittest.main()
