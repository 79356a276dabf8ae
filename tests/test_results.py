import unittest

from helpers import ANY_VALUES, Checks, is_int
from clankernel.errors import BadResult
from clankernel.results import result_number, result_word

RESULTS = {
    0: ("done", None), 1: ("late", "send"), 2: ("late", "receive"), 3: ("gone", "send"), 4: ("gone", "receive"),
    5: ("broken", "send"), 6: ("broken", "receive"), 7: ("lost", None), 8: ("no right", None), 9: ("barred", None),
    10: ("cut", None), 11: ("bad", None), 13: ("refused", None),
}
WORDS = sorted({word for word, _ in RESULTS.values()})


class ResultsTest(unittest.TestCase, Checks):
    def test_each_there_and_back(self):
        for number, (word, half) in RESULTS.items():
            self.same(result_word(number), (word, half))
            self.same(result_number(word, half), number)
            self.same(result_number(half=half, word=word), number)

    def test_all_other_numbers(self):
        for number in list(range(-20, 300)) + [65535, 65536]:
            if number not in RESULTS:
                self.fails(BadResult, number, result_word, number)
        self.refuses(BadResult, result_word, lambda value: is_int(value, 0, 1))

    def test_all_other_words_and_halves(self):
        for word in WORDS:
            for half in (None, "send", "receive"):
                if (word, half) not in RESULTS.values():
                    self.fails(BadResult, (word, half), result_number, word, half)
        for value in ANY_VALUES + ("Late", "late ", "no_right", 0, 12, 13):
            for half in (None, "send", "receive"):
                self.fails(BadResult, (value, half), result_number, value, half)
            if value is not None:
                for word in WORDS:
                    self.fails(BadResult, (word, value), result_number, word, value)


if __name__ == "__main__":
    unittest.main()
