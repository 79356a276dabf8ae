import unittest

from helpers import Checks
from clankernel.asm import Program, moved, text_of
from clankernel.errors import BadMove, BadProgram, BadWords
from clankernel.rows import word_of

WRONG_WORDS = (
    [], [(0, 1)], ((0, 1), (0, 2)), ((1, 1), (0, 2)), ((0, 1), [1, 2]), ((256, 0),), ((-1, 0),), ((0, 65536),),
    ((0, -1),), ((True, 0),), ((0, True),), ((0,),), ((0, 1, 2),), ((0, None),), (("0", 1),), (0, 1), None, "at 0", 0,
    True, {0: 1}, ((),), (None,),
)


def wrong_line(text):
    try:
        Program(text)
    except BadProgram as caught:
        return caught.value
    return None


class ProgramTest(unittest.TestCase, Checks):
    def words(self, *lines):
        return Program("\n".join(lines)).words

    def wrong(self, number, *lines):
        self.same(wrong_line("\n".join(lines)), number)

    def test_each_form_of_line(self):
        program = Program("# any signs: 1 2\n# \nat 9\nhere:\nname top 65535\nword top\nword 7\nword here\nspace 2\n"
                          "jump here\nset r7 511")
        self.same(program.words, ((9, 65535), (10, 7), (11, 9), (12, 0), (13, 0), (14, 24576 + 9), (15, 8191)))
        self.same(program.names, (("here", 9), ("top", 65535)))
        self.assertTrue(program.text.startswith("# any"))

    def test_each_row(self):
        texts = {
            "set r1 2": ("set", 1, 2), "high r1 2": ("high", 1, 2), "copy r1 r2": ("copy", 1, 2),
            "add r1 r2": ("add", 1, 2), "sub r1 r2": ("sub", 1, 2), "mul r1 r2": ("mul", 1, 2),
            "div r1 r2": ("div", 1, 2), "rem r1 r2": ("rem", 1, 2), "and r1 r2": ("and", 1, 2),
            "or r1 r2": ("or", 1, 2), "xor r1 r2": ("xor", 1, 2), "shl r1 r2": ("shl", 1, 2),
            "shr r1 r2": ("shr", 1, 2), "load r1 r2 3": ("load", 1, 2, 3), "store r1 r2 3": ("store", 1, 2, 3),
            "jump 3": ("jump", 3), "zero r1 3": ("zero", 1, 3), "some r1 3": ("some", 1, 3),
            "less r1 r2": ("less", 1, 2), "same r1 r2": ("same", 1, 2), "link r1 3": ("link", 1, 3), "go r1": ("go", 1),
            "call 3": ("call", 3), "trap 3": ("trap", 3),
        }
        for text, row in texts.items():
            self.same(Program(text).words, ((0, word_of(row)),))

    def test_names_in_each_row_with_a_number(self):
        for text in ("set r1 {}", "high r1 {}", "load r1 r2 {}", "store r1 r2 {}", "jump {}", "zero r1 {}",
                     "some r1 {}", "link r1 {}", "call {}", "trap {}", "word {}"):
            self.assertEqual(self.words("name three 3", text.format("three")), Program(text.format(3)).words)

    def test_names_ahead_and_behind(self):
        self.same(self.words("jump end", "jump start", "start:", "end:", "jump end"),
                  ((0, 24578), (1, 24578), (2, 24578)))
        self.same(self.words("word late", "name late 9"), ((0, 9),))

    def test_bounds_of_numbers(self):
        self.same(Program("name a 0\nname b 65535").names, (("a", 0), ("b", 65535)))
        self.same(self.words("at 255", "space 1"), ((255, 0),))
        self.same(self.words("at 0", "word 0"), ((0, 0),))

    def test_no_words(self):
        self.same(Program("# ").words, ())
        self.same(Program("at 5\nname a 1\nb:").words, ())
        self.same(Program("at 5\nname a 1\nb:").names, (("a", 1), ("b", 5)))

    def test_words_stand_by_addresses(self):
        self.same(self.words("at 9", "word 1", "at 3", "word 2", "at 10", "word 3"), ((3, 2), (9, 1), (10, 3)))

    def test_names_called_as_words_of_lines(self):
        self.same(Program("at:\nname:\nword word\nname space 4\nword:\nword space").names,
                  (("at", 0), ("name", 0), ("space", 4), ("word", 1)))

    def test_no_string(self):
        for value in (0, None, True, (), [], b"", ("# none",), Program("# none")):
            self.fails(BadProgram, 0, Program, value)

    def test_lines_without_form(self):
        for line in ("", " ", "#", "#none", "at", "at a", "at -1", "at 256", "at 01", "at 1 2", "at  1", "at 1 ",
                     " at 1", "a b:", ":", "A:", "a1:", "_:", "a: ", "a :", "name", "name a", "name a b",
                     "name a 65536",
                     "name a -1", "name a 00", "name abcdefghi 1", "name A 1", "name a 1 2", "name 1 a", "name a: 1",
                     "word", "word -1", "word +1", "word 01", "word 0x1", "word a1", "word 1 2", "word 1.0", "word A",
                     "word abcdefghi", "space", "space 0", "space 257", "space a", "space 01", "space 1 1",
                     "set r8 1", "set r0", "set r0 1 1", "set 0 1", "set r-1 1", "set r00 1", "set r0 r1", "set r 1",
                     "Set r0 1", "set  r0 1", "copy r0 r8", "copy r0", "copy r0 1", "copy r0 a", "load r0 r1",
                     "load r0 1 r1", "load r0 r1 r2", "jump", "jump r0", "jump -1", "go 1", "go a", "go r8", "call",
                     "trap x1", "nop", "sets r0 1", "jump 1_0", "jump 1 ", "\tjump 1"):
            self.wrong(1, line)
            self.wrong(3, "# first", "word 1", line, "")

    def test_a_line_feed_at_the_end(self):
        self.wrong(2, "word 1", "")
        self.wrong(1, "", "word 1")

    def test_names_of_one_eight_and_nine_letters(self):
        self.same(Program("z:\nabcdefgh:").names, (("abcdefgh", 0), ("z", 0)))
        self.wrong(2, "z:", "abcdefghi:")

    def test_names_told_twice(self):
        self.wrong(2, "a:", "a:")
        self.wrong(3, "a:", "word 1", "name a 0")
        self.wrong(2, "name a 1", "name a 1")

    def test_words_where_one_lies_or_beyond(self):
        self.same(self.words("at 255", "word 5"), ((255, 5),))
        self.wrong(3, "at 255", "word 5", "word 6")
        self.wrong(3, "at 255", "word 5", "go r0")
        self.wrong(4, "word 5", "at 0", "# ", "word 5")
        self.wrong(3, "word 5", "at 0", "space 1")
        self.wrong(4, "at 2", "word 1", "at 0", "space 3")
        self.assertEqual(len(self.words("space 256")), 256)
        self.wrong(2, "space 256", "word 1")
        self.wrong(2, "word 1", "space 256")
        self.wrong(2, "at 1", "space 256")
        self.same(Program("at 255\nword end\nend:").words, ((255, 256),))

    def test_numbers_that_fit_and_one_beyond(self):
        for text, most in (("set r0 {}", 511), ("high r0 {}", 255), ("load r0 r0 {}", 63), ("store r0 r0 {}", 63),
                           ("jump {}", 255), ("zero r0 {}", 255), ("some r0 {}", 255), ("link r0 {}", 255),
                           ("call {}", 15), ("trap {}", 255), ("word {}", 65535)):
            self.assertEqual(len(self.words(text.format(most))), 1)
            self.wrong(1, text.format(most + 1))
            self.wrong(2, "# ", text.format(99999999999))
            if most < 65535:
                self.assertEqual(self.words(f"name n {most}", text.format("n")), self.words(text.format(most)))
                self.wrong(2, f"name n {most + 1}", text.format("n"))
        self.wrong(2, "space 256", "jump end", "end:")
        self.wrong(1, "jump end", "at 255", "word 1", "end:")

    def test_names_that_no_line_tells(self):
        self.wrong(1, "word none")
        self.wrong(2, "a:", "jump b", "jump a")
        self.wrong(3, "# ", "word a", "word b", "name a 1")

    def test_forms_go_ahead_of_names_and_sizes(self):
        self.wrong(3, "word none", "set r0 512", "wrong")
        self.wrong(3, "word none", "a:", "a:")
        self.wrong(4, "word none", "word 1", "at 0", "word 1")
        self.wrong(1, "word none", "set r0 512")
        self.wrong(1, "set r0 512", "word none")
        # Whoever lays farther ahead by address may stand behind by line.
        self.wrong(2, "at 9", "word none", "at 1", "word also")

    def test_programs_are_equal_by_texts_alone(self):
        self.assertTrue(Program("word 1") == Program("word 1"))
        self.assertFalse(Program("word 1") != Program("word 1"))
        self.assertFalse(Program("word 1") == Program("at 0\nword 1"))
        for value in ("word 1", None, 1, ((0, 1),)):
            self.assertFalse(Program("word 1") == value)


class TextOfTest(unittest.TestCase, Checks):
    def test_stretches(self):
        self.assertEqual(text_of(((0, 4099), (1, 0), (9, 57344))), "at 0\nset r0 3\nword 0\nat 9\ntrap 0")
        self.assertEqual(text_of(((255, 65535),)), "at 255\nword 65535")
        self.assertEqual(text_of(()), "# none")

    def test_there_and_back(self):
        for words in ((), ((0, 0),), tuple((at, at * 257) for at in range(256)),
                      tuple((at, 65535 - at * 200) for at in range(0, 256, 2))):
            self.same(Program(text_of(words)).words, words)

    def test_wrong_words(self):
        for value in WRONG_WORDS:
            self.fails(BadWords, value, text_of, value)
        self.refuses(BadWords, text_of, lambda value: value == () or value == ((0, 1),))


class MovedTest(unittest.TestCase, Checks):
    def test_places_within_are_moved_too(self):
        text = "at {}\njump {}\nzero r1 {}\nsome r2 {}\nlink r3 {}\njump {}\nset r0 10\nword 10\ntrap 11"
        words = Program(text.format(10, 10, 11, 12, 13, 14)).words
        self.same(moved(words, 5), Program(text.format(15, 15, 16, 17, 18, 19)).words)
        self.same(moved(moved(words, -10), 10), words)

    def test_places_elsewhere_stay(self):
        self.same(moved(Program("at 4\njump 3\njump 6\njump 5\nat 9\njump 4\njump 8").words, 1),
                  Program("at 5\njump 3\njump 7\njump 6\nat 10\njump 5\njump 8").words)

    def test_bounds(self):
        self.same(moved(((0, 0),), 255), ((255, 0),))
        self.same(moved(((255, 0),), -255), ((0, 0),))
        self.same(moved((), 255), ())
        self.same(moved((), -255), ())
        self.same(moved(((3, 24579),), 0), ((3, 24579),))
        for words, by in (((0, 0),), 256), (((0, 0),), -1), (((255, 0),), 1), ((), 256), ((), -256), \
                (((0, 0), (9, 0)), 247), (((9, 0),), -10):
            self.fails(BadMove, by, moved, words, by)

    def test_errors_in_sequence(self):
        for value in WRONG_WORDS:
            self.fails(BadWords, value, moved, value, None)
        for by in (None, True, False, "1", (1,), [1], 1000):
            self.fails(BadMove, by, moved, ((0, 0),), by)


if __name__ == "__main__":
    unittest.main()
