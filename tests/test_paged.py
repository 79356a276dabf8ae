import random
import unittest

from helpers import ANY_VALUES, Checks, is_int
from clankernel.asm import Program
from clankernel.cells import Cell, memory_of, run_rows
from clankernel.errors import BadFrame, BadFrames, BadMemory, BadNumber, BadPage, BadWay, Fresh, Here
from clankernel.paged import Paged, carried
from clankernel.rows import word_of

FIRST = Cell((0,) * 8, 0)
START = memory_of(Program("load r0 r1 20\nstore r0 r1 40\ntrap 0\nat 20\nword 7").words)
ZERO = (0,) * 256


class PagedTest(unittest.TestCase, Checks):
    def test_at_first(self):
        for frames in (1, 2, 16):
            paged = Paged(START, frames)
            self.assertTrue(paged.standing == FIRST)
            self.same((paged.frames, paged.store, paged.memory, paged.fresh, paged.written, paged.done), ((None,) * frames, START, START, (), (), 0))
        self.assertEqual(set(vars(Paged(memory=START, frames=1))) >= {"standing", "frames", "store", "memory", "fresh", "written", "done"}, True)

    def test_wrong_arguments(self):
        bad = ANY_VALUES + (START[:255], START + (0,), list(START), START[:255] + (65536,), START[:255] + (True,), START[:255] + (None,))
        for value in bad:
            self.fails(BadMemory, value, Paged, value, 0)
            self.fails(BadMemory, value, carried, value, 0, 0, -1)
        for value in ANY_VALUES + (17, -1):
            if not is_int(value, 1, 16):
                self.fails(BadFrames, value, Paged, START, value)
                self.fails(BadFrames, value, carried, START, value, 0, -1)

    def test_a_row_step_by_step(self):
        paged = Paged(START, 2)
        told, same = paged.next_row()
        self.same(told, ("wants", 0))
        self.assertIs(same, paged)
        paged = paged.brought(0, 1)
        self.same((paged.frames, paged.fresh, paged.written), ((None, 0), (0,), ()))
        self.same(paged.next_row()[0], ("wants", 1))
        paged = paged.brought(page=1, frame=0)
        self.same((paged.frames, paged.fresh), ((1, 0), (0, 1)))
        told, later = paged.next_row()
        self.same(told, ("done",))
        self.assertTrue(later.standing == Cell((7,) + (0,) * 7, 1))
        self.same((later.frames, later.fresh, later.written, later.done), ((1, 0), (), (), 1))
        self.same(later.next_row()[0], ("wants", 2))
        # Page 1 was not written: the store stays.
        later = later.brought(2, 0)
        self.same((later.frames, later.fresh, later.store), ((2, 0), (2,), START))
        told, later = later.next_row()
        self.same((told, later.written, later.fresh, later.done), (("done",), (2,), (), 2))
        self.same((later.memory[40], later.store[40]), (7, 0))
        told, same = later.next_row()
        self.same(told, ("trap", 0))
        self.assertIs(same, later)
        self.assertEqual(same.standing.place, 2)
        # What was written is in the store once its frame is taken.
        gone = later.brought(5, 0)
        self.same((gone.store[40], gone.memory[40], gone.written, gone.frames, gone.fresh), (7, 7, (), (5, 0), (5,)))
        self.same((paged.done, paged.frames), (0, (1, 0)))

    def test_brought_in_its_sequence_of_errors(self):
        paged = Paged(START, 2).brought(0, 0)
        for value in ANY_VALUES + (-1, 2, 3, 17):
            if not is_int(value, 0, 15):
                self.fails(BadPage, value, paged.brought, value, 9)
            if not is_int(value, 0, 1):
                self.fails(BadFrame, value, paged.brought, 0, value)
        for frame in (0, 1):
            self.fails(Here, 0, paged.brought, 0, frame)
        self.fails(Fresh, 0, paged.brought, 3, 0)
        both = paged.brought(1, 1)
        self.fails(Here, 1, both.brought, 1, 0)
        self.fails(Fresh, 1, both.brought, 2, 1)
        _, done = both.next_row()
        self.assertEqual(done.brought(2, 1).frames, (0, 2))
        self.fails(Here, 1, done.brought, 1, 1)

    def test_rows_that_are_not_done(self):
        for row, told in ((word_of(("call", 3)), ("call", 3)), (word_of(("trap", 255)), ("trap", 255)), (0, ("fault", "row", 0)),
                          (word_of(("div", 0, 1)), ("fault", "nought", 0)), (word_of(("load", 0, 1, 0)), None), (word_of(("go", 0)), ("done",))):
            paged = Paged((row,) + ZERO[1:], 1).brought(0, 0)
            if told is None:
                continue
            got, later = paged.next_row()
            self.same(got, told)
            if told != ("done",):
                self.assertIs(later, paged)
        beyond = memory_of(Program("high r1 1\nload r0 r1 5").words)
        _, paged = Paged(beyond, 1).brought(0, 0).next_row()
        self.same(paged.next_row()[0], ("fault", "beyond", 261))

    def test_a_written_page_that_is_written_again(self):
        text = "set r0 5\nstore r0 r1 16\nstore r0 r1 17\nstore r0 r1 0\nload r2 r1 16"
        end, _, paged = carried(memory_of(Program(text).words), 2, "turn", 5)
        self.same((end, paged.written, paged.done, paged.standing.registers[2]), (("rows",), (0, 1), 5, 5))

    def test_just_the_page_goes_to_the_store(self):
        # Pages 1 and 2 are written all over at their edges; page 1 goes out.
        text = "set r0 9\nstore r0 r1 16\nstore r0 r1 31\nstore r0 r1 32\nstore r0 r1 47\nstore r0 r1 15\nload r2 r1 50"
        _, _, paged = carried(memory_of(Program(text).words), 4, "turn", 7)
        self.same((paged.frames, paged.written), ((0, 1, 2, 3), (0, 1, 2)))
        later = paged.brought(5, 1)
        self.same([later.store[at] for at in (15, 16, 31, 32, 47)], [0, 9, 9, 0, 0])
        self.same([later.memory[at] for at in (15, 16, 31, 32, 47)], [9] * 5)
        self.same((later.written, later.brought(6, 0).written, len(later.store)), ((0, 2), (2,), 256))

    def test_equality(self):
        one, other = Paged(START, 2), Paged(START, 2)
        self.assertTrue(one == other and not one != other)
        self.assertTrue(one != Paged(START, 3) and one != Paged(ZERO, 2))
        self.assertTrue(one.brought(0, 0) == other.brought(0, 0))
        self.assertTrue(one.brought(0, 0) != other.brought(0, 1))
        self.assertTrue(one.brought(0, 0).brought(1, 1).next_row()[1] != one.brought(0, 0).brought(1, 1))
        # Alike in all but one part.
        for part, value in (("standing", FIRST.with_place(1)), ("frames", (0, None)), ("store", ZERO), ("memory", ZERO), ("fresh", (0,)), ("written", (0,)), ("done", 1)):
            bent = Paged(START, 2)
            setattr(bent, part, value)
            self.assertTrue(bent != one and not bent == one and not one == bent)
        for value in ANY_VALUES:
            self.assertFalse(one == value)
            self.assertTrue(one != value)


class Plain:
    """Paged memory of another shape: the words of frames stand by themselves."""

    def __init__(self, memory, frames, way):
        self.store = list(memory)
        self.held = [None] * frames
        self.words = [None] * frames
        self.cell = FIRST
        self.came, self.used, self.clock = {}, {}, 0
        self.fresh, self.written = set(), set()
        self.way = way if isinstance(way, str) else list(way)
        self.told = []
        self.done = 0

    def memory(self):
        words = list(self.store)
        for frame, page in enumerate(self.held):
            if page is not None:
                words[16 * page:16 * page + 16] = self.words[frame]
        return tuple(words)

    def touch(self, page):
        if page not in self.held:
            return False
        self.clock += 1
        self.used[page] = self.clock
        return True

    def go(self, rows):
        while self.done < rows:
            place = self.cell.place
            if not self.touch(place // 16):
                end = self.bring(place // 16)
                if end:
                    return end
                continue
            done, cell, memory, end = run_rows(self.cell, self.memory(), 1)
            row = self.memory()[place]
            other = None
            if row >> 12 in (4, 5) and end[0] != "fault":
                other = (self.cell.registers[(row >> 6) & 7] + (row & 63)) % 65536 // 16
                if not self.touch(other):
                    end = self.bring(other)
                    if end:
                        return end
                    continue
            if end[0] != "ticks":
                return end
            if row >> 12 == 5:
                self.words[self.held.index(other)] = list(memory[16 * other:16 * other + 16])
                self.written.add(other)
            self.cell = cell
            self.done += 1
            self.fresh.clear()
        return ("rows",)

    def bring(self, page):
        if None in self.held:
            frame = self.held.index(None)
        else:
            free = [frame for frame, held in enumerate(self.held) if held not in self.fresh]
            if not free:
                return ("stuck",)
            if self.way == "turn":
                frame = sorted(free, key=lambda frame: self.came[self.held[frame]])[0]
            elif self.way == "used":
                frame = sorted(free, key=lambda frame: self.used.get(self.held[frame], 0))[0]
            elif self.way and self.way[0] in free:
                frame = self.way.pop(0)
            else:
                return ("lacks",)
            gone = self.held[frame]
            if gone in self.written:
                self.store[16 * gone:16 * gone + 16] = self.words[frame]
                self.written.discard(gone)
        self.told.append((self.done, page, frame))
        self.held[frame] = page
        self.words[frame] = self.store[16 * page:16 * page + 16]
        self.came[page] = len(self.told)
        self.fresh.add(page)
        return None


def random_memory(rng):
    words = []
    for _ in range(256):
        kind = rng.random()
        if kind < 0.3:
            row = ("load", rng.randrange(4), rng.randrange(4, 8), rng.randrange(64))
        elif kind < 0.6:
            row = ("store", rng.randrange(4), rng.randrange(4, 8), rng.randrange(64))
        elif kind < 0.8:
            row = ("set", rng.randrange(8), rng.randrange(192))
        elif kind < 0.9:
            row = ("jump", rng.randrange(256))
        else:
            row = ("add", rng.randrange(4), rng.randrange(8))
        words.append(word_of(row) if rng.random() < 0.995 else rng.choice([0, word_of(("trap", 1)), word_of(("call", 2))]))
    return tuple(words)


class CarriedTest(unittest.TestCase, Checks):
    def test_random_programs_beside_run_rows_and_a_model(self):
        rng = random.Random(3)
        ends = set()
        for _ in range(120):
            memory = random_memory(rng)
            for frames in (1, 2, 3, 16):
                way = rng.choice(["turn", "used", tuple(rng.randrange(frames) for _ in range(rng.choice([0, 3, 40, 400])))])
                rows = rng.choice([0, 1, 7, 40, 120])
                end, brought, paged = carried(memory, frames, way, rows)
                ends.add(end[0] if end[0] != "fault" else end[:2])
                plain = Plain(memory, frames, way)
                self.same((plain.go(rows), tuple(plain.told)), (end, brought))
                self.same((paged.frames, paged.store, paged.memory, paged.fresh, paged.written, paged.done),
                          (tuple(plain.held), tuple(plain.store), plain.memory(), tuple(sorted(plain.fresh)), tuple(sorted(plain.written)), plain.done))
                # What is seen is what rows do with all memory there.
                done, cell, words, last = run_rows(FIRST, memory, paged.done)
                self.same((done, words), (paged.done, paged.memory))
                self.assertTrue(cell == paged.standing)
                if end[0] in ("call", "trap", "fault"):
                    self.same(run_rows(FIRST, memory, paged.done + 1)[3], end)
                if frames >= 2:
                    self.assertNotEqual(end, ("stuck",))
                if end == ("rows",):
                    self.assertEqual(paged.done, rows)
        self.assertTrue({"rows", "stuck", "lacks", "trap", "call", ("fault", "row")} <= ends, ends)

    def test_the_example_of_turns_and_uses(self):
        # Pages 1, 2, 3 are read again and again, page 0 is that of the rows.
        text = "set r1 16\nset r2 32\nset r3 48\nload r0 r1 0\nload r0 r2 0\nload r0 r1 1\nload r0 r3 0\nload r0 r1 2\nload r0 r2 2\ntrap 1"
        memory = memory_of(Program(text).words)
        self.same(carried(memory, 3, "turn", 20)[1], ((0, 0, 0), (3, 1, 1), (4, 2, 2), (6, 3, 0), (6, 0, 1), (7, 1, 2), (8, 2, 0)))
        self.same(carried(memory, 3, "used", 20)[1], ((0, 0, 0), (3, 1, 1), (4, 2, 2), (6, 3, 2), (8, 2, 2)))
        self.same(carried(memory, 4, "used", 20)[0], ("trap", 1))
        self.same(carried(memory, 4, "used", 20)[1], ((0, 0, 0), (3, 1, 1), (4, 2, 2), (6, 3, 3)))

    def test_a_tuple_is_used_once_all_frames_hold_pages(self):
        self.same(carried(START, 2, (), 9)[0], ("lacks",))
        self.same(carried(START, 3, (), 9)[0], ("trap", 0))
        end, brought, paged = carried(START, 2, (1,), 9)
        self.same((end, brought), (("trap", 0), ((0, 0, 0), (0, 1, 1), (1, 2, 1))))
        # 0 is that of the row itself: page 0 has to come again, into frame 1; then it is used up.
        end, brought, _ = carried(START, 2, (0, 1), 9)
        self.same((end, brought), (("trap", 0), ((0, 0, 0), (0, 1, 1), (1, 2, 0), (1, 0, 1))))
        self.same(carried(START, 2, (0,), 9)[:2], (("lacks",), ((0, 0, 0), (0, 1, 1), (1, 2, 0))))
        # A frame with a fresh page.
        self.same(carried(START, 2, (0, 0), 9)[:2], (("lacks",), ((0, 0, 0), (0, 1, 1), (1, 2, 0))))
        self.same(carried(START, 1, (0,) * 9, 9)[:2], (("stuck",), ((0, 0, 0),)))

    def test_bounds_of_rows(self):
        loop = memory_of(Program("jump 0").words)
        self.same(carried(loop, 1, "turn", 0)[:2], (("rows",), ()))
        end, brought, paged = carried(memory=loop, frames=1, way="used", rows=400)
        self.same((end, brought, paged.done), (("rows",), ((0, 0, 0),), 400))
        self.same(carried(START, 16, "turn", 2)[0], ("rows",))
        self.same(carried(START, 16, "turn", 3)[0], ("trap", 0))

    def test_wrong_arguments(self):
        for value in ANY_VALUES + ("Turn", "turns", (2,), (-1,), (0, True), [0], (0,) * 401, (0, None)):
            right = type(value) is tuple and all(is_int(frame, 0, 1) for frame in value) and len(value) <= 400
            if not right:
                self.fails(BadWay, value, carried, START, 2, value, -1)
        for value in ANY_VALUES + (-1, 401):
            if not is_int(value, 0, 400):
                self.fails(BadNumber, value, carried, START, 2, "turn", value)
        self.same(carried(START, 2, (0,) * 400, 0)[0], ("rows",))


if __name__ == "__main__":
    unittest.main()
