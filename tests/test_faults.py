import unittest

from helpers import ANY_VALUES, Checks
from clankernel.errors import BadAccesses, BadFault, BadLetters, BadPlace, BadWords
from clankernel.faults import behind_answer, door_of, fault_of, fault_words, first_refused
from clankernel.rows import row_of

FAULTS = (
    (("page", "r", 0), (1, 0)), (("page", "r", 255), (1, 255)), (("page", "w", 37), (2, 37)), (("page", "x", 9), (3, 9)),
    (("beyond", 256), (4, 256)), (("beyond", 65535), (4, 65535)), (("row", 0), (5, 0)), (("row", 65535), (5, 65535)),
    (("row", 12299), (5, 12299)), (("nought", 9), (6, 9)), (("trap", 0), (7, 0)), (("trap", 255), (7, 255)),
)
WRONG = (
    (), ("page",), ("page", "r"), ("page", "r", 256), ("page", "r", -1), ("page", "r", True), ("page", "", 0), ("page", "rw", 0),
    ("page", 1, 0), ("page", ["r"], 0), ("page", "r", 0, 0), ["page", "r", 0], ("Page", "r", 0), ("beyond",), ("beyond", 255),
    ("beyond", 0), ("beyond", 65536), ("beyond", True), ("beyond", "256"), ("beyond", 256, 0), ("row", 4096), ("row", 12288),
    ("row", 57344), ("row", -1), ("row", 65536), ("row", False), ("row", None), ("nought", 256), ("nought", -1), ("nought", True),
    ("nought",), ("nought", "x", 0), ("trap", 256), ("trap", -1), ("trap", False), ("trap", 0, 0), ("call", 0), (None, 0), (7, 0),
    ({}, 0), ([], "r", 0), None, "page", 0,
)
WRONG_WORDS = ((), (0, 0, 0), (0, 0, 0, 0, 0), [0, 0, 0, 0], (0, 0, 0, -1), (0, 0, 0, 65536), (0, 0, 0, True), (None, 0, 0, 0), None, 0)
HELD = ("rwx", "rw", "r", "w", "x", "rx", "wx") + ("",) * 9


class FirstRefusedTest(unittest.TestCase, Checks):
    def test_the_place_alone(self):
        for page, letters in enumerate(HELD):
            for address in (16 * page, 16 * page + 15):
                told = None if "x" in letters else ("page", "x", address)
                self.same(first_refused(HELD, ((address, "x"),)), told)

    def test_with_a_second_access(self):
        for page, letters in enumerate(HELD):
            for letter in "rw":
                for address in (16 * page, 16 * page + 15):
                    told = None if letter in letters else ("page", letter, address)
                    self.same(first_refused(HELD, ((3, "x"), (address, letter))), told)
                    self.same(first_refused(HELD, ((16, "x"), (address, letter))), ("page", "x", 16))

    def test_wrong_letters(self):
        wrong = [HELD[:15], HELD + ("",), list(HELD), (), None, "rwx", 0]
        wrong.extend(HELD[:15] + (value,) for value in ("wr", "xr", "rr", "s", " ", "rwxr", "R", 0, None, True, ("r",), ["r"]))
        wrong.extend(value for value in ANY_VALUES)
        for letters in wrong:
            self.fails(BadLetters, letters, first_refused, letters, ())

    def test_wrong_accesses(self):
        first = (3, "x")
        wrong = [(), (first, (3, "r"), (3, "w")), [first], first, ((3, "r"),), ((3, "w"),), (first, first), ((3, "r"), (3, "x")),
                 (first, (3, "")), (first, (3, "rw")), ((256, "x"),), ((-1, "x"),), ((True, "x"),), (("3", "x"),), ((3, "x", 0),),
                 ((3,),), ([3, "x"],), (first, (256, "r")), (first, (-1, "w")), (first, (False, "r")), (first, [3, "r"]),
                 (first, (3, ["r"])), (first, None), (None,), ((3, None),), ((3, 1),)]
        for accesses in wrong + list(ANY_VALUES):
            self.fails(BadAccesses, accesses, first_refused, HELD, accesses)


class WordsTest(unittest.TestCase, Checks):
    def test_there_and_back(self):
        for fault, (code, value) in FAULTS:
            self.same(fault_words(fault, 9), (code, value, 9, 0))
            self.same(fault_of((code, value, 9, 0)), (fault, 9))
        for fault, (code, value) in FAULTS:
            if fault not in (("page", "x", 9), ("nought", 9)):
                for place in (0, 255):
                    self.same(fault_words(fault, place), (code, value, place, 0))
                    self.same(fault_of((code, value, place, 0)), (fault, place))

    def test_each_word_that_tells_a_row_is_no_fault(self):
        for word in range(0, 65536, 7):
            if row_of(word) is None:
                self.same(fault_of((5, word, 0, 0)), (("row", word), 0))
            else:
                self.fails(BadWords, (5, word, 0, 0), fault_of, (5, word, 0, 0))
                self.fails(BadFault, ("row", word), fault_words, ("row", word), 0)

    def test_wrong_faults(self):
        for fault in WRONG + ANY_VALUES:
            self.fails(BadFault, fault, fault_words, fault, None)
            self.fails(BadFault, fault, door_of, fault)
            self.fails(BadFault, fault, behind_answer, fault, None)

    def test_wrong_places(self):
        for fault, _ in FAULTS:
            for place in (-1, 256, True, None, "9", (9,), []):
                self.fails(BadPlace, place, fault_words, fault, place)
        for place in (0, 8, 10, 255):
            self.fails(BadPlace, place, fault_words, ("nought", 9), place)
            self.fails(BadPlace, place, fault_words, ("page", "x", 9), place)
            self.assertEqual(fault_words(("page", "r", 9), place)[2], place)

    def test_wrong_words(self):
        wrong = [(0, 0, 0, 0), (8, 0, 0, 0), (1, 256, 0, 0), (2, 256, 0, 0), (3, 256, 0, 0), (4, 255, 0, 0), (4, 0, 0, 0),
                 (6, 256, 0, 0), (7, 256, 0, 0), (1, 0, 256, 0), (4, 256, 256, 0), (5, 0, 256, 0), (7, 0, 256, 0), (1, 0, 0, 1),
                 (7, 0, 0, 65535), (3, 9, 8, 0), (6, 9, 8, 0), (5, 4096, 0, 0), (65535, 0, 0, 0)]
        for words in wrong + list(WRONG_WORDS) + list(ANY_VALUES):
            self.fails(BadWords, words, fault_of, words)


class AnswerTest(unittest.TestCase, Checks):
    def test_doors(self):
        for fault, _ in FAULTS:
            self.same(door_of(fault), "pager" if fault[0] == "page" else "handler")

    def test_of_pages(self):
        for letter in "rwx":
            for words in ((0, 0, 0, 0), (1, 0, 0, 0), (2, 5, 0, 0), (2, 300, 0, 0), (9, 9, 9, 9)):
                self.same(behind_answer(("page", letter, 5), words), ("again",))

    def test_of_all_others(self):
        for fault, _ in FAULTS:
            if fault[0] == "page":
                continue
            self.same(behind_answer(fault, (0, 5, 6, 7)), ("on",))
            self.same(behind_answer(fault, (1, 5, 6, 7)), ("again",))
            for place in (0, 255):
                self.same(behind_answer(fault, (2, place, 6, 7)), ("at", place))
            for words in ((2, 256, 0, 0), (2, 65535, 0, 0), (3, 0, 0, 0), (65535, 0, 0, 0)):
                self.same(behind_answer(fault, words), ("rests",))

    def test_wrong_words(self):
        for fault, _ in FAULTS:
            for words in WRONG_WORDS + ANY_VALUES:
                self.fails(BadWords, words, behind_answer, fault, words)


if __name__ == "__main__":
    unittest.main()
