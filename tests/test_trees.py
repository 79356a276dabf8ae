import random
import unittest

from helpers import ANY_VALUES, Checks
from test_spaces import HEAD, HOME, LETTERS
from clankernel.errors import NoFrame, NoPage, NoTask, OtherPages
from clankernel.spaces import Spaces
from clankernel.trees import page_at, page_beneath, page_chain, page_holders, shows_told_apart, told_apart

FLAT = Spaces("frames 1\ntasks 3\npage 1 0 r 0 0\npage 2 0 r 0 0")
DEEP = Spaces("frames 1\ntasks 3\npage 1 0 r 0 0\npage 2 0 r 1 0")


def reshaped(chance, spaces):
    """Spaces with the same pages, with perhaps other parents."""
    ranks = sorted(spaces.pages, key=lambda row: (-len(row[3]), chance.random()))
    parents = {}
    for at, (task, page, frame, letters) in enumerate(ranks):
        above = [row for row in ranks[:at] if row[2] == frame and set(letters) <= set(row[3])]
        choice = chance.choice([(0, frame)] + [row[:2] for row in above])
        parents[(task, page)] = choice
    lines = [f"frames {spaces.frames}", f"tasks {spaces.tasks}"]
    for task, page, _, letters in spaces.pages:
        above = parents[(task, page)]
        lines.append(f"page {task} {page} {letters} {above[0]} {above[1]}")
    return Spaces("\n".join(lines))


def unmapping_tells(one, other, task, page, letter):
    return one.unmapped(task, (page, 1), letter, False).pages != other.unmapped(task, (page, 1), letter, False).pages


class TreesTest(unittest.TestCase, Checks):
    def setUp(self):
        self.home = Spaces(HOME)

    def test_page_at(self):
        self.same(page_at(self.home, 1, 0), (2, "rw"))
        self.same(page_at(self.home, 2, 5), (2, "r"))
        self.same(page_at(self.home, 0, 3), (3, "rwx"))
        for place in ((0, 4), (0, 15), (1, 2), (2, 0)):
            self.assertIsNone(page_at(self.home, *place))

    def test_page_chain(self):
        self.same(page_chain(self.home, 2, 5), ((2, 5), (1, 0), (0, 2)))
        self.same(page_chain(self.home, 1, 1), ((1, 1), (0, 2)))
        self.same(page_chain(self.home, 0, 2), ((0, 2),))
        self.same(page_chain(self.home, 0, 4), ())
        self.same(page_chain(self.home, 2, 6), ())

    def test_page_beneath(self):
        self.same(page_beneath(self.home, 0, 2), ((1, 0), (1, 1), (2, 5)))
        self.same(page_beneath(self.home, 1, 0), ((2, 5),))
        self.same(page_beneath(self.home, 2, 5), ())
        self.same(page_beneath(self.home, 0, 1), ())
        self.same(page_beneath(self.home, 2, 9), ())
        crossed = Spaces(HEAD + "\npage 0 9 r 2 1\npage 1 0 rw 0 2\npage 2 1 r 1 0")
        self.same(page_beneath(crossed, 1, 0), ((0, 9), (2, 1)))
        self.same(page_chain(crossed, 0, 9), ((0, 9), (2, 1), (1, 0), (0, 2)))

    def test_page_holders(self):
        self.same(page_holders(self.home, 2), ((0, 2, "rwx"), (1, 0, "rw"), (1, 1, "r"), (2, 5, "r")))
        self.same(page_holders(self.home, 3), ((0, 3, "rwx"),))
        self.same(page_holders(self.home, 0), ((0, 0, "rwx"),))
        crossed = Spaces("frames 4\ntasks 2\npage 0 4 r 0 3\npage 1 0 r 0 3")
        self.same(page_holders(crossed, 3), ((0, 3, "rwx"), (0, 4, "r"), (1, 0, "r")))

    def test_errors_in_sequence(self):
        for call in (page_at, page_chain, page_beneath):
            for task in (-1, 3, True, None, "1", (1,)):
                self.fails(NoTask, task, call, self.home, task, None)
            for page in (-1, 16, True, False, None, "1", (1,)):
                self.fails(NoPage, page, call, self.home, 2, page)
        for frame in (-1, 4, True, False, None, "1", (1,), [1]):
            self.fails(NoFrame, frame, page_holders, self.home, frame)


class ToldApartTest(unittest.TestCase, Checks):
    def test_same(self):
        self.same(told_apart(FLAT, Spaces(FLAT.text)), ("same",))
        self.assertIs(shows_told_apart(FLAT, FLAT, ("same",)), True)
        self.assertIs(shows_told_apart(FLAT, DEEP, ("same",)), False)
        self.assertIs(shows_told_apart(FLAT, FLAT, ("unmap", 1, 0, "r")), False)
        for value in (("other",), (None,), ("same", "same"), ()):
            self.assertIs(shows_told_apart(FLAT, FLAT, value), False)

    def test_other_parents(self):
        self.same(told_apart(FLAT, DEEP), ("unmap", 1, 0, "r"))
        self.same(told_apart(DEEP, FLAT), ("unmap", 1, 0, "r"))
        last = [Spaces(f"frames 1\ntasks 3\npage 2 3 x {above}\npage 2 15 x 0 0") for above in ("0 0", "2 15")]
        self.same(told_apart(*last), ("unmap", 2, 15, "x"))

    def test_other_pages(self):
        for other in ANY_VALUES + (Spaces("frames 2\ntasks 3\npage 1 0 r 0 0\npage 2 0 r 0 0"),
                                   Spaces("frames 1\ntasks 4\npage 1 0 r 0 0\npage 2 0 r 0 0"),
                                   Spaces("frames 1\ntasks 3\npage 1 0 r 0 0\npage 2 0 w 0 0"),
                                   Spaces("frames 1\ntasks 3\npage 1 0 r 0 0\npage 2 1 r 0 0"),
                                   Spaces("frames 1\ntasks 3\npage 1 0 r 0 0"), FLAT.text, FLAT.pages):
            self.fails(OtherPages, other, told_apart, FLAT, other)
            self.fails(OtherPages, other, shows_told_apart, FLAT, other, ("same",))
        one, two = Spaces("frames 2\ntasks 2\npage 1 0 r 0 0"), Spaces("frames 2\ntasks 2\npage 1 0 r 0 1")
        self.fails(OtherPages, two, told_apart, one, two)

    def test_values_that_are_none(self):
        for value in ANY_VALUES + (("same", 1), ["same"], "same", ("unmap", 1, 0), ("unmap", 1, 0, "r", 0),
                                   ["unmap", 1, 0, "r"], ("unmap", True, 0, "r"), ("unmap", 1, False, "r"),
                                   ("unmap", 1, 0, "w"), ("unmap", 1, 0, "rw"), ("unmap", 1, 0, ""),
                                   ("unmap", 1, 0, None), ("unmap", 1, 0, ("r",)), ("unmap", 0, 0, "r"),
                                   ("unmap", 2, 0, "r"), ("unmap", 3, 0, "r"), ("unmap", 1, 16, "r"),
                                   ("unmap", -1, 0, "r"), ("unmap", "1", 0, "r"), (None, 1, 0, "r")):
            self.assertIs(shows_told_apart(FLAT, DEEP, value), False, value)
        self.assertIs(shows_told_apart(FLAT, DEEP, ("unmap", 1, 0, "r")), True)

    def test_random_spaces(self):
        for seed in range(40):
            chance = random.Random(seed)
            spaces = Spaces("frames 2\ntasks 3")
            for _ in range(8):
                spaces = spaces.mapped(chance.randrange(3), (chance.randrange(4), 1), chance.randrange(3),
                                       (chance.randrange(4), 1), 0, chance.choice(LETTERS))
            other = reshaped(chance, spaces)
            told = told_apart(spaces, other)
            self.assertEqual(told == ("same",), spaces == other)
            self.assertIs(shows_told_apart(spaces, other, told), True)
            for task in range(3):
                for page in range(16):
                    for letter in "rwx":
                        self.assertIs(shows_told_apart(spaces, other, ("unmap", task, page, letter)),
                                      unmapping_tells(spaces, other, task, page, letter))


if __name__ == "__main__":
    unittest.main()
