import unittest

from helpers import Checks, is_int
from clankernel.errors import BadRow, BadWord
from clankernel.rows import is_placed, row_of, row_text, word_of

RECKONED = ("copy", "add", "sub", "mul", "div", "rem", "and", "or", "xor", "shl", "shr")
# Of each row: its least and its greatest one, their words and texts.
BOUNDS = [
    (("set", 0, 0), 4096, "set r0 0"), (("set", 7, 511), 8191, "set r7 511"),
    (("high", 0, 0), 8192, "high r0 0"), (("high", 7, 255), 8192 + 3584 + 255, "high r7 255"),
    (("load", 0, 0, 0), 16384, "load r0 r0 0"), (("load", 7, 7, 63), 20479, "load r7 r7 63"),
    (("store", 0, 0, 0), 20480, "store r0 r0 0"), (("store", 7, 7, 63), 24575, "store r7 r7 63"),
    (("jump", 0), 24576, "jump 0"), (("jump", 255), 24831, "jump 255"),
    (("zero", 0, 0), 28672, "zero r0 0"), (("zero", 7, 255), 28672 + 3839, "zero r7 255"),
    (("some", 0, 0), 32768, "some r0 0"), (("some", 7, 255), 32768 + 3839, "some r7 255"),
    (("less", 0, 0), 36864, "less r0 r0"), (("less", 7, 7), 36864 + 4032, "less r7 r7"),
    (("same", 0, 0), 40960, "same r0 r0"), (("same", 7, 7), 40960 + 4032, "same r7 r7"),
    (("link", 0, 0), 45056, "link r0 0"), (("link", 7, 255), 45056 + 3839, "link r7 255"),
    (("go", 0), 49152, "go r0"), (("go", 7), 49152 + 3584, "go r7"),
    (("call", 0), 53248, "call 0"), (("call", 15), 53263, "call 15"),
    (("trap", 0), 57344, "trap 0"), (("trap", 255), 57599, "trap 255"),
] + [((name, 0, 0), 12288 + number, f"{name} r0 r0") for number, name in enumerate(RECKONED)] + [
    ((name, 7, 7), 12288 + 3584 + 448 + number, f"{name} r7 r7") for number, name in enumerate(RECKONED)]
NONE = (
    0, 1, 4095, 8192 + 256, 8192 + 511, 8192 + 512 + 256, 12288 + 11, 12288 + 63, 24576 + 256, 24576 + 512, 28671,
    28672 + 256, 28672 + 511, 32768 + 256, 36864 + 1, 36864 + 63, 40960 + 1, 45056 + 256, 49152 + 1, 49152 + 511,
    53248 + 16, 53248 + 512, 57344 + 256, 61439, 61440, 65535,
)
NO_ROWS = (
    ("set", 8, 0), ("set", -1, 0), ("set", 0, 512), ("set", 0, -1), ("high", 0, 256), ("high", 8, 0), ("copy", 0, 8),
    ("copy", 8, 0), ("shr", 0, -1), ("load", 0, 0, 64), ("load", 0, 8, 0), ("store", 8, 0, 0), ("store", 0, 0, -1),
    ("jump", 256), ("jump", -1), ("zero", 8, 0), ("zero", 0, 256), ("some", 0, 256), ("less", 0, 8), ("same", 8, 0),
    ("link", 0, 256), ("link", 8, 0), ("go", 8), ("call", 16), ("call", -1), ("trap", 256),
    ("set", True, 0), ("set", 0, True), ("set", 0, False), ("go", True), ("jump", False), ("call", True),
    ["set", 0, 0], ("set", (0,), 0), ("set", [0], 0), ("set", "r0", 0), ("set", "0", 0), ("set", 0, "0"),
    ("set", None, 0), ("set", 0), ("set", 0, 0, 0), ("set",), ("go",), ("go", 0, 0), ("jump", 0, 0), ("copy", 0),
    ("copy", 0, 0, 0), ("load", 0, 0), ("load", 0, 0, 0, 0), ("call",), ("trap", 0, 0), ("none", 0, 0), ("Set", 0, 0),
    ("", 0), (None, 0, 0), (["set"], 0, 0), ({}, 0), (("set", 0, 0),), "set", "set r0 0", 4096,
)


class RowsTest(unittest.TestCase, Checks):
    def test_bounds_there_and_back(self):
        for row, word, text in BOUNDS:
            self.assertEqual(word_of(row), word)
            self.same(row_of(word), row)
            self.assertEqual(row_text(row), text)

    def test_all_words_there_and_back(self):
        many = 0
        for word in range(65536):
            row = row_of(word)
            if row is not None:
                many += 1
                self.assertEqual(word_of(row), word)
        # By their forms there are just so many rows.
        expected = 8 * 512 + 8 * 256 + 11 * 64 + 2 * 64 * 64 + 256 + 2 * 8 * 256 + 2 * 64 + 8 * 256 + 8 + 16 + 256
        self.assertEqual(many, expected)

    def test_words_that_tell_no_row(self):
        for word in NONE:
            self.assertIsNone(row_of(word), word)

    def test_words_that_are_none(self):
        self.refuses(BadWord, row_of, lambda value: is_int(value, 0, 65535))
        for value in (-1, 65536, True, False, None, "1", (1,), [1]):
            self.fails(BadWord, value, row_of, value)

    def test_values_that_are_no_rows(self):
        for call in (word_of, row_text, is_placed):
            self.refuses(BadRow, call, lambda value: value == ("set", 0, 0))
            for value in NO_ROWS:
                self.fails(BadRow, value, call, value)

    def test_rows_that_hold_a_place(self):
        for row, _, _ in BOUNDS:
            self.assertIs(is_placed(row), row[0] in ("jump", "zero", "some", "link"))


if __name__ == "__main__":
    unittest.main()
