import random
import unittest

from helpers import ANY_VALUES, Checks, is_int
from clankernel.errors import BadAddress, BadItems, BadMany, BadMemory, BadRows
from clankernel.items import copied, fitting, item_words, items_in

# Right rows and their words, each kind at its bounds.
ROWS = (
    (("string", 0, 1), (1, 0, 1, 0)),
    (("string", 255, 16), (1, 255, 16, 0)),
    (("map", (0, 1), "r", 0), (2, 1, 1, 0)),
    (("map", (15, 1), "rwx", 15), (2, 481, 7, 15)),
    (("map", (0, 16), "w", 3), (2, 16, 2, 3)),
    (("map", (14, 2), "rw", 3), (2, 450, 3, 3)),
    (("grant", (4, 4), "x", 9), (3, 132, 4, 9)),
    (("grant", (8, 8), "rx", 15), (3, 264, 5, 15)),
    (("grant", (0, 8), "wx", 0), (3, 8, 6, 0)),
    (("right", 0, "s", 0), (4, 0, 1, 0)),
    (("right", 15, "sg", 999), (4, 15, 3, 999)),
    (("right", 3, "c", None), (4, 3, 4, 65535)),
    (("right", 3, "cg", 7), (4, 3, 6, 7)),
    (("buffer", 0, 16), (5, 0, 16, 0)),
    (("buffer", 255, 1), (5, 255, 1, 0)),
    (("window", (0, 16)), (6, 16, 0, 0)),
    (("window", (15, 1)), (6, 481, 0, 0)),
    (("place", 0), (7, 0, 0, 0)),
    (("place", 15), (7, 15, 0, 0)),
)
WRONG_WORDS = (
    (8, 0, 1, 0), (9, 1, 1, 1), (65535, 0, 0, 0),
    (1, 256, 1, 0), (1, 0, 0, 0), (1, 0, 17, 0), (1, 0, 1, 1),
    (2, 0, 1, 0), (2, 3, 1, 0), (2, 17, 1, 0), (2, 34, 1, 0), (2, 48, 1, 0), (2, 513, 1, 0), (2, 512 + 16, 1, 0), (2, 34 + 32, 0, 0),
    (2, 1, 0, 0), (2, 1, 8, 0), (2, 1, 9, 0), (2, 1, 1, 16), (2, 1, 1, 65535),
    (3, 0, 1, 0), (3, 1, 0, 0), (3, 1, 8, 0), (3, 1, 1, 16), (3, 36, 1, 0),
    (4, 16, 1, 0), (4, 0, 0, 0), (4, 0, 2, 0), (4, 0, 5, 0), (4, 0, 7, 0), (4, 0, 9, 0), (4, 0, 1, 1000), (4, 0, 1, 65534),
    (5, 256, 1, 0), (5, 0, 0, 0), (5, 0, 17, 0), (5, 0, 1, 1),
    (6, 0, 0, 0), (6, 34, 0, 0), (6, 1, 1, 0), (6, 1, 0, 1), (6, 513, 0, 0),
    (7, 16, 0, 0), (7, 0, 1, 0), (7, 0, 0, 1),
)
WRONG_ROWS = (
    (), ("string",), ("string", 0), ("string", 0, 1, 0), ["string", 0, 1], ("String", 0, 1), (1, 0, 1), (None, 0, 1), (None, 0), (None,), (False, 0),
    ("string", 256, 1), ("string", -1, 1), ("string", 0, 0), ("string", 0, 17), ("string", True, 1), ("string", 0, True),
    ("map", (0, 1), "r"), ("map", (0, 1), "r", 0, 0), ("map", (1, 2), "r", 0), ("map", (16, 1), "r", 0), ("map", [0, 1], "r", 0),
    ("map", 1, "r", 0), ("map", (0, 3), "r", 0), ("map", (0, 1), "", 0), ("map", (0, 1), "wr", 0), ("map", (0, 1), 1, 0),
    ("map", (0, 1), "r", 16), ("map", (0, 1), "r", -1), ("map", (0, 1), "r", False), ("grant", (0, 1), "s", 0),
    ("grant", (0, True), "r", 0), ("right", 16, "s", 0), ("right", -1, "s", 0), ("right", 0, "", 0), ("right", 0, "g", 0),
    ("right", 0, "gs", 0), ("right", 0, "r", 0), ("right", 0, ("s",), 0), ("right", 0, ["s"], 0), ("right", 0, "s", 1000),
    ("right", 0, "s", -1), ("right", 0, "s", 65535), ("right", 0, "s", "none"), ("right", 0, "s", True), ("right", 0, "s"),
    ("buffer", 0), ("buffer", 256, 1), ("buffer", 0, 0), ("buffer", 0, 17), ("buffer", 0, 1, 0), ("window",), ("window", 1),
    ("window", (0, 3)), ("window", (2, 4)), ("window", (0, 1), 0, 0), ("place",), ("place", 16), ("place", -1),
    ("place", True), ("place", 0, 0, 0), ("words", 0), None, "string", 1, {}, ({},), ([], 1), (("string",), 0, 1),
)
FULL = ("string", 3, 4), ("map", (0, 1), "r", 1), ("grant", (2, 2), "w", 2), ("right", 4, "s", None), ("buffer", 9, 2), \
    ("window", (4, 4)), ("place", 5)


def flat(rows):
    return tuple(word for row in rows for word in row)


class ItemsTest(unittest.TestCase, Checks):
    def wrong(self, number, words):
        self.fails(BadItems, number, items_in, words)

    def test_each_kind_there_and_back(self):
        for row, words in ROWS:
            self.same(items_in(words + (0,)), (row,))
            self.same(item_words((row,)), words + (0,))

    def test_none(self):
        self.same(items_in((0,)), ())
        self.same(items_in((0, 9, 9, 9)), ())
        self.same(item_words(()), (0,))

    def test_both_halves_mixed(self):
        words = item_words(FULL)
        self.assertEqual(len(words), 29)
        self.same(items_in(words), FULL)
        for seed in range(50):
            rows = random.Random(seed).sample(FULL, random.Random(seed).randrange(8))
            self.same(items_in(item_words(tuple(rows))), tuple(rows))

    def test_what_stands_behind_the_end(self):
        for behind in ((1,), (8, 8, 8, 8), (65535,) * 300, (0, 0)):
            self.same(items_in((7, 3, 0, 0, 0) + behind), (("place", 3),))

    def test_wrong_forms(self):
        for words in WRONG_WORDS:
            self.wrong(1, words + (0,))
            self.wrong(1, words)
            self.wrong(3, (7, 3, 0, 0, 5, 0, 1, 0) + words + (0,))

    def test_one_too_many(self):
        for row, words in ROWS:
            many = 2 if row[0] in ("map", "grant") else 1
            self.wrong(many + 1, words * (many + 1) + (0,))
            self.assertEqual(len(items_in(words * many + (0,))), many)
        for kinds in ((2, 2, 3), (2, 3, 2), (3, 3, 2), (2, 3, 3)):
            self.wrong(3, flat((kind, 1, 1, 0) for kind in kinds) + (0,))
        for row, words in ROWS:
            self.wrong(8, item_words(FULL)[:-1] + words + (0,))
            self.wrong(8, item_words(FULL)[:-1] + words)

    def test_ended_early(self):
        self.wrong(1, ())
        whole = item_words(FULL)
        for many in range(len(whole)):
            self.wrong(many // 4 + 1, whole[:many])

    def test_no_such_tuple(self):
        for value in ANY_VALUES:
            if type(value) is not tuple:
                self.wrong(0, value)
        for words in ((0, -1), (0, 65536), (0, True), (0, None), ("0",), (None,), (False,), (0, (0,)), [0]):
            self.wrong(0, words)

    def test_rows_of_any_kind(self):
        for row in WRONG_ROWS:
            self.fails(BadRows, (row,), item_words, (row,))
            self.fails(BadRows, FULL[:3] + (row,), item_words, FULL[:3] + (row,))
        for value in ANY_VALUES:
            if value != ():
                self.fails(BadRows, value, item_words, value)
            self.fails(BadRows, (value,), item_words, (value,))
        self.fails(BadRows, [FULL[0]], item_words, [FULL[0]])

    def test_rows_too_many(self):
        for row, _ in ROWS:
            rows = (row,) * (3 if row[0] in ("map", "grant") else 2)
            self.fails(BadRows, rows, item_words, rows)
            self.fails(BadRows, FULL + (row,), item_words, FULL + (row,))


COUNTED = tuple(range(1000, 1256))


def written(memory, words):
    later = list(memory)
    for at, word in words.items():
        later[at] = word
    return tuple(later)


class CopiedTest(unittest.TestCase, Checks):
    other = tuple(range(256))

    def test_into_another_one(self):
        self.same(copied(COUNTED, self.other, 7, 100, 3), (3, written(self.other, {100: 1007, 101: 1008, 102: 1009})))
        self.same(copied(COUNTED, self.other, 0, 240, 16), (16, self.other[:240] + COUNTED[:16]))
        self.same(copied(COUNTED, self.other, 255, 0, 1), (1, (1255,) + self.other[1:]))

    def test_into_itself(self):
        self.same(copied(COUNTED, COUNTED, 10, 11, 3), (3, written(COUNTED, {11: 1010, 12: 1010, 13: 1010})))
        self.same(copied(COUNTED, tuple(list(COUNTED)), 10, 12, 4),
                  (4, written(COUNTED, {12: 1010, 13: 1011, 14: 1010, 15: 1011})))
        self.same(copied(COUNTED, COUNTED, 11, 10, 3), (3, written(COUNTED, {10: 1011, 11: 1012, 12: 1013})))
        self.same(copied(COUNTED, COUNTED, 4, 4, 16), (16, COUNTED))
        # One word otherwise makes another memory of it.
        twin = written(COUNTED, {200: 1})
        self.same(copied(COUNTED, twin, 10, 11, 3), (3, written(twin, {11: 1010, 12: 1011, 13: 1012})))

    def test_words_that_cannot_be_reached(self):
        source = written(COUNTED, {12: None})
        self.same(copied(source, self.other, 10, 100, 4), (2, written(self.other, {100: 1010, 101: 1011})))
        self.same(copied(source, self.other, 12, 100, 4), (0, self.other))
        self.same(copied(source, self.other, 13, 100, 1)[0], 1)
        target = written(self.other, {101: None, 110: None})
        self.same(copied(COUNTED, target, 10, 100, 4), (1, written(target, {100: 1010})))
        self.same(copied(COUNTED, target, 10, 101, 4), (0, target))
        self.same(copied(source, source, 11, 11, 4), (1, source))
        self.same(copied(source, source, 20, 11, 4), (1, written(source, {11: 1020})))
        self.same(copied((None,) * 256, (None,) * 256, 0, 0, 16), (0, (None,) * 256))

    def test_the_edge(self):
        self.same(copied(COUNTED, self.other, 254, 10, 16), (2, written(self.other, {10: 1254, 11: 1255})))
        self.same(copied(COUNTED, self.other, 10, 255, 16), (1, written(self.other, {255: 1010})))
        self.same(copied(COUNTED, COUNTED, 255, 255, 2), (1, COUNTED))

    def test_errors_in_sequence(self):
        good = COUNTED
        for memory in (good[:-1], good + (0,), list(good), (), None, 0, good[:-1] + (65536,), good[:-1] + (-1,),
                       good[:-1] + (True,), good[:-1] + ("0",)):
            self.fails(BadMemory, memory, copied, memory, None, 256, 256, 0)
            self.fails(BadMemory, memory, copied, good, memory, 256, 256, 0)
        for value in ANY_VALUES:
            if not is_int(value, 0, 255):
                self.fails(BadAddress, value, copied, good, good, value, 300, 0)
                self.fails(BadAddress, value, copied, good, good, 0, value, 0)
            if not is_int(value, 1, 16):
                self.fails(BadMany, value, copied, good, good, 0, 0, value)
            self.fails(BadMemory, value, copied, value, value, 0, 0, 1)
            self.fails(BadMemory, value, copied, good, value, -1, 0, 1)
        self.fails(BadAddress, 300, copied, good, good, 300, 301, 0)
        for many in (0, 17, -1):
            self.fails(BadMany, many, copied, good, good, 0, 255, many)

    def test_random_copies_beside_one_by_one(self):
        for seed in range(300):
            chance = random.Random(seed)
            source = tuple(None if chance.random() < 0.02 else chance.randrange(65536) for _ in range(256))
            same = chance.random() < 0.5
            target = source if same else tuple(None if chance.random() < 0.02 else 0 for _ in range(256))
            start, goal, many = chance.randrange(256), chance.randrange(256), chance.randrange(1, 17)
            if chance.random() < 0.5:
                goal = min(255, start + chance.randrange(4))
            came, words = 0, dict(enumerate(target))
            while came < many:
                word = (words if same else dict(enumerate(source))).get(start + came)
                if word is None or words.get(goal + came) is None:
                    break
                words[goal + came] = word
                came += 1
            self.same(copied(source, target, start, goal, many), (came, tuple(words[at] for at in range(256))))


class FittingTest(unittest.TestCase, Checks):
    def test_strings(self):
        for sent, buffered in ((1, 16), (16, 1), (5, 5), (16, 16)):
            self.same(fitting((("string", 250, sent),), (("buffer", 3, buffered),)), (min(sent, buffered), False, False))
        self.same(fitting((("string", 0, 5),), ()), (0, False, False))
        self.same(fitting((), (("buffer", 0, 5),)), (0, False, False))

    def test_pages_and_rights(self):
        pages, right = (("map", (0, 1), "r", 0), ("grant", (0, 1), "r", 0)), ("right", 0, "s", None)
        window, place = ("window", (0, 1)), ("place", 0)
        for page in pages:
            self.same(fitting((page,), (window,)), (0, True, False))
            self.same(fitting((page,), (place,)), (0, False, False))
            self.same(fitting((page, right), (place, window)), (0, True, True))
        self.same(fitting((right,), (place,)), (0, False, True))
        self.same(fitting((right,), (window,)), (0, False, False))
        self.same(fitting((), (window, place)), (0, False, False))
        self.same(fitting((), ()), (0, False, False))

    def test_both_halves_in_one(self):
        self.same(fitting(FULL, FULL), (2, True, True))
        self.same(fitting(FULL[:4], FULL[:4]), (0, False, False))
        self.same(fitting(FULL[4:], FULL[4:]), (0, False, False))

    def test_errors(self):
        for value in ANY_VALUES:
            if value != ():
                self.fails(BadRows, value, fitting, value, None)
                self.fails(BadRows, value, fitting, FULL, value)
        for row in WRONG_ROWS:
            self.fails(BadRows, (row,), fitting, (row,), [])
            self.fails(BadRows, (row,), fitting, (), (row,))
        twice = (("window", (0, 1)),) * 2
        self.fails(BadRows, twice, fitting, twice, ())
        self.fails(BadRows, twice, fitting, (), twice)


if __name__ == "__main__":
    unittest.main()
