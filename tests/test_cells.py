import random
import unittest

from helpers import ANY_VALUES, Checks, is_int
from clankernel.asm import Program
from clankernel.cells import Cell, does, memory_of, run_rows, step, touches, wants
from clankernel.errors import BadCell, BadMemory, BadNumber, BadValue, BadWord, BadWords
from clankernel.rows import row_of, word_of

ZEROS = (0,) * 8
EMPTY = (0,) * 256
COUNT = "set r0 3\nloop:\nadd r1 r0\nset r2 1\nsub r0 r2\nsome r0 loop\nstore r1 r3 32\ntrap 0"
# name, A, B, and what A becomes.
RECKONED = (
    ("copy", 5, 9, 9), ("add", 65535, 1, 0), ("add", 65535, 65535, 65534), ("add", 1, 2, 3), ("sub", 0, 1, 65535),
    ("sub", 5, 5, 0), ("sub", 7, 2, 5), ("mul", 256, 256, 0), ("mul", 65535, 65535, 1), ("mul", 3, 4, 12),
    ("div", 0, 5, 0), ("rem", 0, 5, 0), ("div", 7, 2, 3), ("div", 65535, 1, 65535), ("div", 1, 65535, 0), ("rem", 7, 2, 1), ("rem", 8, 2, 0),
    ("rem", 1, 65535, 1), ("and", 12, 10, 8), ("or", 12, 10, 14), ("xor", 12, 10, 6), ("xor", 65535, 65535, 0),
    ("shl", 1, 15, 32768), ("shl", 1, 16, 0), ("shl", 3, 15, 32768), ("shl", 65535, 0, 65535), ("shl", 1, 65535, 0),
    ("shr", 32768, 15, 1), ("shr", 32768, 16, 0), ("shr", 65535, 0, 65535), ("shr", 7, 1, 3), ("shr", 65535, 65535, 0),
)
WRONG_MEMORIES = (EMPTY[:255], EMPTY + (0,), list(EMPTY), (True,) + EMPTY[:255], (65536,) + EMPTY[:255],
                  (-1,) + EMPTY[:255], (None,) + EMPTY[:255], "a" * 256, (), None, 0)


def cell(place=0, **registers):
    words = [0] * 8
    for name, word in registers.items():
        words[int(name[1])] = word
    return Cell(tuple(words), place)


class CellTest(unittest.TestCase, Checks):
    def test_right_cells(self):
        for registers, place in ((ZEROS, 0), ((65535,) * 8, 255), (tuple(range(8)), 7)):
            made = Cell(registers, place)
            self.same(made.registers, registers)
            self.same(made.place, place)

    def test_wrong_cells(self):
        for registers in (ZEROS[:7], ZEROS + (0,), list(ZEROS), (65536,) + ZEROS[:7], (-1,) + ZEROS[:7],
                          (True,) + ZEROS[:7], (None,) + ZEROS[:7], "00000000", None, 0, {}):
            self.fails(BadCell, (registers, 0), Cell, registers, 0)
        for place in (-1, 256, True, None, "0", (0,)):
            self.fails(BadCell, (ZEROS, place), Cell, ZEROS, place)
        for value in ANY_VALUES:
            self.fails(BadCell, (value, value), Cell, value, value)

    def test_with_place(self):
        made = cell(3, r1=4)
        self.assertTrue(made.with_place(255) == cell(255, r1=4))
        self.assertTrue(made == cell(3, r1=4))
        self.refuses(BadNumber, made.with_place, lambda value: is_int(value, 0, 255))
        self.fails(BadNumber, 256, made.with_place, 256)

    def test_with_register(self):
        made = cell(3, r1=4)
        self.same(made.with_register(7, 65535).registers, (0, 4, 0, 0, 0, 0, 0, 65535))
        self.same(made.with_register(0, 1).registers, (1, 4, 0, 0, 0, 0, 0, 0))
        self.assertEqual(made.with_register(1, 0).place, 3)
        self.assertTrue(made == cell(3, r1=4))
        for number in (-1, 8, True, None, "1", (1,)):
            self.fails(BadNumber, number, made.with_register, number, None)
        for word in (-1, 65536, True, None, "1", (1,)):
            self.fails(BadWord, word, made.with_register, 1, word)

    def test_equality(self):
        self.assertTrue(cell(3, r1=4) == cell(3, r1=4))
        self.assertFalse(cell(3, r1=4) != cell(3, r1=4))
        self.assertTrue(cell(3) != cell(4))
        self.assertTrue(cell(3, r1=4) != cell(3, r2=4))
        for value in ((ZEROS, 0), None, 0, "cell", [ZEROS, 0]):
            self.assertFalse(Cell(ZEROS, 0) == value)


class DoesTest(unittest.TestCase, Checks):
    def goes(self, row, before, after, value=None):
        told = does(before, word_of(row), value)
        self.assertEqual((told[0], len(told)), ("goes", 2))
        self.assertEqual((told[1].registers, told[1].place), (after.registers, after.place), row)

    def test_set_and_high(self):
        self.goes(("set", 1, 511), cell(5, r1=65535), cell(6, r1=511))
        self.goes(("set", 0, 0), cell(255, r0=9), cell(0))
        self.goes(("high", 7, 255), cell(0, r7=513), cell(1, r7=65281))
        self.goes(("high", 0, 0), cell(0, r0=65535), cell(1, r0=255))

    def test_reckoning(self):
        for name, left, right, became in RECKONED:
            self.goes((name, 2, 5), cell(9, r2=left, r5=right), cell(10, r2=became, r5=right))
            self.goes((name, 5, 2), cell(255, r5=left, r2=right), cell(0, r5=became, r2=right))
        self.goes(("mul", 3, 3), cell(0, r3=300), cell(1, r3=24464))
        self.goes(("sub", 3, 3), cell(0, r3=300), cell(1))

    def test_load(self):
        self.goes(("load", 1, 2, 63), cell(0, r2=192), cell(1, r1=65535, r2=192), 65535)
        self.goes(("load", 1, 2, 1), cell(0, r2=65535), cell(1, r1=7, r2=65535), 7)
        self.goes(("load", 2, 2, 0), cell(0, r2=255), cell(1, r2=0), 0)

    def test_store(self):
        told = does(cell(255, r1=77, r2=192), word_of(("store", 1, 2, 63)), None)
        self.assertEqual((told[0], told[1].place, told[2:]), ("writes", 0, (255, 77)))
        self.assertTrue(told[1] == cell(0, r1=77, r2=192))
        self.assertEqual(does(cell(0, r2=65535), word_of(("store", 1, 2, 1)), None)[2:], (0, 0))

    def test_jumps(self):
        self.goes(("jump", 255), cell(7), cell(255))
        self.goes(("zero", 1, 40), cell(7), cell(40))
        self.goes(("zero", 1, 40), cell(7, r1=1), cell(8, r1=1))
        self.goes(("zero", 1, 40), cell(255, r1=1), cell(0, r1=1))
        self.goes(("some", 1, 40), cell(7), cell(8))
        self.goes(("some", 1, 40), cell(7, r1=1), cell(40, r1=1))
        self.goes(("go", 1), cell(7, r1=255), cell(255, r1=255))
        self.goes(("link", 1, 40), cell(7), cell(40, r1=8))
        self.goes(("link", 1, 255), cell(255, r1=9), cell(255, r1=0))

    def test_less_and_same(self):
        self.goes(("less", 1, 2), cell(7, r1=1, r2=2), cell(8, r1=1, r2=2))
        self.goes(("less", 1, 2), cell(7, r1=2, r2=2), cell(9, r1=2, r2=2))
        self.goes(("less", 1, 2), cell(7, r1=3, r2=2), cell(9, r1=3, r2=2))
        self.goes(("same", 1, 2), cell(7, r1=2, r2=2), cell(8, r1=2, r2=2))
        self.goes(("same", 1, 2), cell(7, r1=2, r2=3), cell(9, r1=2, r2=3))
        self.goes(("same", 1, 2), cell(254, r1=2, r2=3), cell(0, r1=2, r2=3))
        self.goes(("same", 1, 2), cell(255, r1=2, r2=3), cell(1, r1=2, r2=3))
        self.goes(("same", 1, 2), cell(255), cell(0))

    def test_calls_and_traps(self):
        told = does(cell(255, r1=2), word_of(("call", 15)), None)
        self.assertEqual((told[0], told[1].place, told[1].registers, told[2]), ("call", 0, cell(0, r1=2).registers, 15))
        told = does(cell(9), word_of(("trap", 255)), None)
        self.assertEqual((told[0], told[1].place, told[2]), ("trap", 10, 255))

    def test_faults(self):
        for before, word, fault in (
                (cell(9), 0, ("row", 0)), (cell(9), 65535, ("row", 65535)), (cell(9), 12299, ("row", 12299)),
                (cell(9), word_of(("div", 1, 2)), ("nought", 9)), (cell(0), word_of(("rem", 1, 2)), ("nought", 0)),
                (cell(9, r1=5), word_of(("div", 1, 2)), ("nought", 9)),
                (cell(8, r1=5), word_of(("rem", 1, 2)), ("nought", 8)),
                (cell(9, r2=256), word_of(("load", 1, 2, 0)), ("beyond", 256)),
                (cell(9, r2=193), word_of(("store", 1, 2, 63)), ("beyond", 256)),
                (cell(9, r2=65535), word_of(("load", 1, 2, 0)), ("beyond", 65535)),
                (cell(9, r2=65535), word_of(("store", 1, 2, 0)), ("beyond", 65535)),
                (cell(9, r1=256), word_of(("go", 1)), ("beyond", 256))):
            self.same(does(before, word, None), ("fault", *fault))
            self.assertIsNone(wants(before, word))
            self.same(touches(before, word), (("x", before.place // 16),))

    def test_wants_and_touches(self):
        load, store = word_of(("load", 1, 2, 5)), word_of(("store", 1, 2, 5))
        self.same(wants(cell(40, r2=250), load), 255)
        self.same(wants(cell(40, r2=65531), load), 0)
        self.assertIsNone(wants(cell(40, r2=250), store))
        self.assertIsNone(wants(cell(40), word_of(("add", 1, 2))))
        self.same(touches(cell(40, r2=250), load), (("r", 15), ("x", 2)))
        self.same(touches(cell(40, r2=250), store), (("w", 15), ("x", 2)))
        self.same(touches(cell(0), store), (("w", 0), ("x", 0)))
        for row in (("add", 1, 2), ("jump", 90), ("call", 3), ("trap", 3), ("go", 0), ("link", 1, 99)):
            self.same(touches(cell(255), word_of(row)), (("x", 15),))

    def test_wrong_words(self):
        for call in (wants, touches, lambda one, word: does(one, word, None), lambda one, word: does(one, word, "a")):
            self.refuses(BadWord, lambda value: call(cell(), value), lambda value: is_int(value, 0, 65535))

    def test_wrong_values(self):
        load = word_of(("load", 1, 2, 5))
        for value in (None, True, -1, 65536, "1", (1,), [1]):
            self.fails(BadValue, value, does, cell(), load, value)
        for word in [0] + [word_of(row) for row in (("store", 1, 2, 5), ("add", 1, 2), ("div", 1, 2), ("go", 0))]:
            for value in (0, 1, False, "", ()):
                self.fails(BadValue, value, does, cell(), word, value)
        self.fails(BadValue, 1, does, cell(r2=256), load, 1)


class MemoryTest(unittest.TestCase, Checks):
    def test_memory_of(self):
        self.same(memory_of(()), EMPTY)
        self.same(memory_of(((0, 1), (255, 65535))), (1,) + (0,) * 254 + (65535,))
        for value in ([], ((1, 1), (0, 1)), ((0, 65536),), ((256, 0),), ((0, True),), None, EMPTY):
            self.fails(BadWords, value, memory_of, value)

    def test_wrong_memories(self):
        for memory in WRONG_MEMORIES:
            self.fails(BadMemory, memory, step, cell(), memory)
            self.fails(BadMemory, memory, run_rows, cell(), memory, None)

    def test_wrong_ticks(self):
        for ticks in (-1, 401, True, None, "1", (1,)):
            self.fails(BadNumber, ticks, run_rows, cell(), EMPTY, ticks)

    def test_step(self):
        memory = memory_of(Program("set r1 9\nstore r1 r0 2\ncall 4").words[:3])
        told = step(cell(), memory)
        self.assertEqual((told[0], len(told), told[1].registers[1], told[2]), ("goes", 3, 9, memory))
        told = step(told[1], memory)
        self.assertEqual((told[0], len(told), told[1].place), ("goes", 3, 2))
        self.same(told[2], memory[:2] + (9,) + memory[3:])
        told = step(cell(2), memory)
        self.assertEqual((told[0], told[1].place, told[2:]), ("call", 3, (memory, 4)))
        self.same(step(cell(3), memory), ("fault", "row", 0))
        trap = (word_of(("trap", 7)),) + EMPTY[1:]
        told = step(cell(), trap)
        self.assertEqual((told[0], told[1].place, told[2:]), ("trap", 1, (trap, 7)))
        told = step(cell(r1=300), memory_of(((0, word_of(("load", 2, 3, 1))), (1, 555))))
        self.assertEqual(told[1].registers, cell(r1=300, r2=555).registers)

    def test_each_kind_of_end(self):
        for text, ticks, done, place, end in (
                (COUNT, 100, 15, 7, ("trap", 0)), (COUNT, 15, 15, 7, ("trap", 0)), (COUNT, 14, 14, 6, ("ticks",)),
                (COUNT, 0, 0, 0, ("ticks",)), ("call 9", 1, 1, 1, ("call", 9)), ("call 9", 0, 0, 0, ("ticks",)),
                ("set r0 1\ncall 9", 2, 2, 2, ("call", 9)), ("set r0 1\nword 0", 2, 1, 1, ("fault", "row", 0)),
                ("set r0 1\nword 0", 1, 1, 1, ("ticks",)), ("div r0 r1", 5, 0, 0, ("fault", "nought", 0)),
                ("high r1 1\nload r0 r1 2", 5, 1, 1, ("fault", "beyond", 258)), ("loop:\njump loop", 400, 400, 0,
                                                                              ("ticks",))):
            told = run_rows(cell(), memory_of(Program(text).words), ticks)
            self.assertEqual((told[0], told[1].place), (done, place), text)
            self.same(told[3], end)

    def test_what_is_written_is_done_next(self):
        text = "load r0 r1 9\nstore r0 r1 2\nset r2 1\ntrap 1\nat 9\nset r2 5"
        done, now, memory, end = run_rows(cell(), memory_of(Program(text).words), 9)
        self.assertEqual((done, now.registers[2], memory[2], end), (4, 5, word_of(("set", 2, 5)), ("trap", 1)))

    def test_a_fault_changes_nothing(self):
        memory = memory_of(Program("set r1 256\nstore r1 r1 0").words)
        done, now, later, end = run_rows(cell(), memory, 9)
        self.same((done, now.place, now.registers[1], later, end), (1, 1, 256, memory, ("fault", "beyond", 256)))

    def test_in_parts_and_in_one_piece(self):
        memory = memory_of(Program(COUNT).words)
        whole = run_rows(cell(), memory, 13)
        for first in range(14):
            part = run_rows(cell(), memory, first)
            rest = run_rows(part[1], part[2], 13 - first)
            self.assertEqual((part[0] + rest[0], rest[1].registers, rest[2:]), (13, whole[1].registers, whole[2:]))

    def test_random_memories_step_by_step(self):
        chance = random.Random(1)
        for _ in range(60):
            words = [chance.randrange(4096, 61440) for _ in range(256)]
            memory = tuple(word if row_of(word) else 4096 for word in words)
            now, there, done = cell(chance.randrange(256)), memory, 0
            start = now
            end = ("ticks",)
            while done < 50 and end == ("ticks",):
                word = there[now.place]
                at = wants(now, word)
                told = does(now, word, None if at is None else there[at])
                pages = {"x": now.place // 16}
                if at is not None:
                    pages["r"] = at // 16
                if told[0] == "writes":
                    pages["w"] = told[2] // 16
                self.assertEqual(touches(now, word), tuple(sorted(pages.items())))
                stepped = step(now, there)
                if told[0] == "fault":
                    self.same(stepped, told)
                    end = told
                    break
                self.assertTrue(stepped[1] == told[1])
                now, there, done = stepped[1], stepped[2], done + 1
                if told[0] == "writes":
                    self.assertEqual(there[told[2]], told[3])
                if told[0] in ("call", "trap"):
                    end = (told[0], told[2])
            ran = run_rows(start, memory, 50)
            self.assertEqual((ran[0], ran[1].registers, ran[1].place, ran[2], ran[3]),
                             (done, now.registers, now.place, there, end))


if __name__ == "__main__":
    unittest.main()
