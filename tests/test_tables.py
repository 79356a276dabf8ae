import random
import unittest

from helpers import ANY_VALUES, Checks, is_int
from test_spaces import HOME, LETTERS
from clankernel.errors import BadAddress, BadTables, NoTask
from clankernel.spaces import Spaces
from clankernel.tables import shows_tables, tables_of, walk
from clankernel.trees import page_at

WRONG_TABLES = (
    (), (0, 0, 0), (0,) * 65, [0, 0, 0, 0], (0, 0, 0, True), (0, 0, 0, False), (0, 0, 0, None), (0, 0, 0, "0"),
    (0, 0, 0, -1), (0, 0, 0, 512), (0, 0, 0, 0, 512), (0, 0, 0, 0, -1), (0, 0, 0, 0, True), (0, 0, 0, 1), (0, 0, 0, 3),
    (0, 0, 0, 4), (4, 0, 0, 0, 0, 0, 0), (5, 0, 0, 0, 0, 0, 0, 0), (4, 0, 0, 0, 1, 0, 0, 0), (4, 0, 0, 0, 0, 0, 0, 127),
    (4, 0, 0, 0, 128, 0, 0, 0), (4, 0, 0, 0, 136, 0, 0, 0), (4, 0, 0, 0, 256, 0, 0, 0), (4, 0, 0, 0, 0, 0, 0, 391),
    (384, 0, 0, 0), (392, 0, 0, 0), (393, 0, 0, 0), (408, 0, 0, 0), (416, 0, 0, 0), (480, 0, 0, 0), (488, 0, 0, 0),
    (511, 0, 0, 0), (129, 0, 0, 0), (383, 0, 0, 0), (61,) + (0,) * 63, (64,) + (0,) * 63, None, 0, "0000", {},
    (391, 0, 0, 4, 0, 0, 0), (0, 0, 0, 0, (0,)),
)


class TablesTest(unittest.TestCase, Checks):
    def setUp(self):
        self.home = Spaces(HOME)

    def test_tables_of(self):
        self.same(tables_of(self.home, 0), (391, 0, 0, 0))
        self.same(tables_of(self.home, 1), (4, 0, 0, 0, 147, 145, 0, 0))
        self.same(tables_of(self.home, 2), (0, 4, 0, 0, 0, 145, 0, 0))
        self.same(tables_of(Spaces("frames 1\ntasks 2"), 1), (0, 0, 0, 0))
        self.same(tables_of(Spaces("frames 1\ntasks 2"), 0), (4, 0, 0, 0, 135, 0, 0, 0))
        self.same(tables_of(Spaces("frames 16\ntasks 1"), 0), (391, 423, 455, 487))
        self.same(tables_of(Spaces("frames 5\ntasks 1"), 0), (391, 4, 0, 0, 167, 0, 0, 0))

    def test_large_directories_wherever_they_can_be(self):
        base = Spaces("frames 16\ntasks 2")
        large = base.mapped(0, (12, 4), 1, (0, 4), 0, "r").mapped(0, (4, 4), 1, (8, 4), 0, "wx")
        self.same(tables_of(large, 1), (481, 0, 422, 0))
        self.same(tables_of(large.unmapped(1, (11, 1), "w", True), 1), (481, 0, 4, 0, 166, 174, 182, 188))
        self.same(tables_of(large.unmapped(1, (0, 1), "r", True), 1), (4, 0, 422, 0, 0, 233, 241, 249))
        shifted = base
        for at in range(4):
            shifted = shifted.mapped(0, (at + 1, 1), 1, (at + 4, 1), 0, "x")
        self.same(tables_of(shifted, 1), (0, 4, 0, 0, 140, 148, 156, 164))
        turned = base
        for at in range(4):
            turned = turned.mapped(0, (3 - at, 1), 1, (at, 1), 0, "x")
        self.same(tables_of(turned, 1), (4, 0, 0, 0, 156, 148, 140, 132))

    def test_entries_behind_one_another(self):
        spaces = Spaces("frames 4\ntasks 2\npage 1 3 rwx 0 3\npage 1 12 r 0 0")
        self.same(tables_of(spaces, 1), (4, 0, 0, 8, 0, 0, 0, 159, 129, 0, 0, 0))

    def test_walk(self):
        tables = (4, 391, 0, 487, 147, 0, 255, 129)
        self.same(walk(tables, 0), (2, 0, "rw"))
        self.same(walk(tables, 15), (2, 15, "rw"))
        self.assertIsNone(walk(tables, 16))
        self.same(walk(tables, 47), (15, 15, "rwx"))
        self.same(walk(tables, 48), (0, 0, "r"))
        self.same(walk(tables, 64), (0, 0, "rwx"))
        self.same(walk(tables, 127), (3, 15, "rwx"))
        self.assertIsNone(walk(tables, 128))
        self.assertIsNone(walk(tables, 191))
        self.same(walk(tables, 255), (15, 15, "rwx"))
        for bits, letters in ((1, "r"), (2, "w"), (3, "rw"), (4, "x"), (5, "rx"), (6, "wx"), (7, "rwx")):
            self.same(walk((384 + bits, 0, 0, 4, 128 + bits, 0, 0, 0), 1), (0, 1, letters))
            self.same(walk((416 + bits, 0, 0, 4, 128 + bits, 0, 0, 0), 193), (0, 1, letters))

    def test_walk_of_shared_entries(self):
        self.same(walk((4, 4, 5, 5, 129, 0, 0, 0, 140), 64), (0, 0, "r"))
        self.same(walk((4, 4, 5, 5, 129, 0, 0, 0, 140), 176), (1, 0, "x"))
        self.same(walk((60,) + (0,) * 62 + (255,), 48), (15, 0, "rwx"))

    def test_wrong_tables_and_addresses(self):
        for tables in WRONG_TABLES:
            self.fails(BadTables, tables, walk, tables, None)
            self.assertIs(shows_tables(self.home, 1, tables), False)
        self.refuses(BadTables, lambda value: walk(value, 0))
        self.refuses(BadAddress, lambda value: walk((0, 0, 0, 0), value), lambda value: is_int(value, 0, 255))
        self.fails(BadAddress, 256, walk, (0, 0, 0, 0), 256)

    def test_no_task(self):
        for task in (-1, 3, True, None, "1", (1,)):
            self.fails(NoTask, task, tables_of, self.home, task)
            self.fails(NoTask, task, shows_tables, self.home, task, (0, 0, 0, 0))
            self.fails(NoTask, task, shows_tables, self.home, task, None)

    def test_shows_tables(self):
        for value in ((4, 0, 0, 0, 147, 145, 0, 0), (4, 0, 0, 0, 147, 145, 0, 0, 9),
                      (5, 0, 0, 0, 511, 147, 145, 0, 0),
                      (4, 8, 8, 8, 147, 145, 0, 0, 0, 0, 0, 0), (4, 6, 0, 6, 147, 145, 0, 0, 0, 0)):
            self.assertIs(shows_tables(self.home, 1, value), True, value)
        for value in ANY_VALUES + ((4, 0, 0, 0, 147, 145, 0, 1), (4, 0, 4, 0, 147, 145, 0, 0), (0, 0, 0, 0),
                                   (4, 0, 0, 0, 145, 145, 0, 0), (4, 0, 0, 0, 155, 145, 0, 0),
                                   [4, 0, 0, 0, 147, 145, 0, 0], (4, 0, 0, False, 147, 145, 0, 0),
                                   (391, 0, 0, 0), (4, 6, 0, 0, 147, 145, 0, 0, 0, 129)):
            self.assertIs(shows_tables(self.home, 1, value), False, value)
        last = Spaces("frames 1\ntasks 2\npage 1 15 r 0 0")
        self.assertIs(shows_tables(last, 1, (0, 0, 0, 4, 0, 0, 0, 129)), True)
        self.assertIs(shows_tables(last, 1, (0, 0, 0, 0)), False)
        for value in ((391, 0, 0, 0), (4, 0, 0, 0, 135, 143, 151, 159)):
            self.assertIs(shows_tables(self.home, 0, value), True, value)

    def test_random_spaces(self):
        for seed in range(60):
            chance = random.Random(seed)
            spaces = Spaces(f"frames {chance.randrange(1, 17)}\ntasks 2")
            for _ in range(6):
                size = chance.choice((1, 4, 8))
                spaces = spaces.mapped(0, (chance.randrange(0, 16, size), size), 1,
                                       (chance.randrange(0, 16, size), size), 0, chance.choice(LETTERS))
            tables = tables_of(spaces, 1)
            self.assertIs(shows_tables(spaces, 1, tables), True)
            for address in range(256):
                held = page_at(spaces, 1, address // 16)
                self.assertEqual(walk(tables, address), held and (held[0], address % 16, held[1]))


if __name__ == "__main__":
    unittest.main()
