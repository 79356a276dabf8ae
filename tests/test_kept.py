import itertools
import random
import unittest

from helpers import ANY_VALUES, Checks
from test_spaces import LETTERS, Model
from clankernel.errors import BadCourse, BadEmpties
from clankernel.kept import kept, plain, shows_stale, stale, writers
from clankernel.spaces import Spaces

CAUSES = ("beneath", "given", "own", "window")
LOTS = tuple(lot for many in range(5) for lot in itertools.combinations(CAUSES, many))
TWO = Spaces("frames 2\ntasks 2")
MAP = ("map", 0, (0, 1), 1, (3, 1), 0, "rw")
WRITE = ("write", 1, 48, 7)
READ = ("read", 1, 48)
# By each cause deeds that take away what page 3 of task 1 has, and who reads it then by the spaces.
TAKERS = {
    "beneath": ("unmap", 0, (0, 1), "rw", False),
    "given": ("grant", 1, (3, 1), 1, (4, 1), 0, "rw"),
    "own": ("unmap", 1, (3, 1), "rw", True),
    "window": ("map", 0, (1, 1), 1, (3, 1), 0, "rw"),
}
WRONG_DEEDS = (
    (), ("read",), ("read", 0), ("read", 2, 0), ("read", -1, 0), ("read", True, 0), ("read", 0, 256), ("read", 0, -1),
    ("read", 0, False), ("read", 0, 0, 0), ["read", 0, 0], ("write", 0, 0), ("write", 0, 0, 65536), ("write", 0, 0, -1),
    ("write", 0, 0, True), ("write", 0, 0, None), ("write", 2, 0, 0), ("write", 0, 256, 0),
    ("write", 0, 0, 0, 0), ("map", 0, (0, 1), 1, (3, 1), 0), ("map", 2, (0, 1), 1, (3, 1), 0, "r"),
    ("map", 0, (1, 2), 1, (3, 1), 0, "r"),
    ("map", 0, (0, 1), 2, (3, 1), 0, "r"), ("map", 0, (0, 1), 1, [3, 1], 0, "r"),
    ("map", 0, (0, 1), 1, (3, 1), 16, "r"),
    ("map", 0, (0, 1), 1, (3, 1), 0, ""), ("map", 0, (0, 1), 1, (3, 1), 0, "r", 0),
    ("grant", 0, (0, 1), 1, (3, 1), 0, "xr"), ("grant", 0, (0, 1), 1, (3, 1), 0),
    ("unmap", 0, (0, 1), "r"),
    ("unmap", 0, (0, 1), "r", 1), ("unmap", 2, (0, 1), "r", True), ("unmap", 0, (0, 3), "r", True),
    ("unmap", 0, (0, 1), "rr", True), ("unmap", 0, (0, 1), "r", True, 0), ("gone", (1,)),
    ("mapped", 0, 0), (None, 0, 0),
    (["read"], 0, 0), "read", None, 0, [],
)
WRONG_EMPTIES = (None, "own", ["own"], ("own", "given"), ("own", "own"), ("other",), ("beneath", "other"), (True,),
                 (0,),
                 (None,), (("own",),), (["own"],), {}, 0, ("Own",), ("",), ("own", 1))


def random_course(chance, many, tasks):
    def block():
        size = chance.choice((1, 1, 1, 2, 4))
        return (chance.randrange(0, 4, size), size)

    def transfer(name):
        return (name, chance.randrange(tasks), block(), chance.randrange(tasks), block(), chance.randrange(16),
                chance.choice(LETTERS))
    course = []
    for _ in range(many):
        kind = chance.choice(("read", "read", "write", "write", "map", "map", "grant", "unmap"))
        address = chance.randrange(4) * 16 + chance.choice((0, 15))
        if kind == "read":
            course.append((kind, chance.randrange(tasks), address))
        elif kind == "write":
            course.append((kind, chance.randrange(tasks), address, chance.randrange(65536)))
        elif kind == "unmap":
            course.append((kind, chance.randrange(tasks), block(), chance.choice(LETTERS), chance.random() < 0.5))
        else:
            course.append(transfer(kind))
    return tuple(course)


def played(spaces, course):
    """The answers, deed by deed, by what each page has at that time alone."""
    words, answers, numbers = {}, [], []
    for number, deed in enumerate(course):
        answer = told = None
        if deed[0] in ("read", "write"):
            pages = {row[:2]: row[2:] for row in spaces.pages}
            pages.update({(0, frame): (frame, "rwx") for frame in range(spaces.frames)})
            frame, letters = pages.get((deed[1], deed[2] // 16), (None, ""))
            at = (frame, deed[2] % 16)
            if deed[0] == "read" and "r" in letters:
                answer, told = words.get(at, (0, None))
            if deed[0] == "write":
                answer = "w" in letters
                if answer:
                    words[at] = (deed[3], number)
        else:
            deeds = {"map": spaces.mapped, "grant": spaces.granted, "unmap": spaces.unmapped}
            spaces = deeds[deed[0]](*deed[1:])
        answers.append(answer)
        numbers.append(told)
    return tuple(answers), tuple(numbers)


def kept_by_model(frames, tasks, course, empties):
    """The answers with kept rows, by a model of another shape than the program's."""
    model, words, rows, answers = Model(frames, tasks), {}, [], []
    for deed in course:
        answer = None
        if deed[0] in ("read", "write"):
            place, letter = (deed[1], deed[2] // 16), deed[0][0]
            frame = None
            found = [row for row in rows if row[0] == place and letter in row[2]]
            if found:
                frame = found[0][1]
            elif letter in model.looks().get(place, (None, ()))[1]:
                frame, letters = model.looks()[place]
                old = [at for at, row in enumerate(rows) if row[0] == place]
                if old:
                    rows[old[0]] = (place, frame, letters)
                else:
                    rows = (rows + [(place, frame, letters)])[-2:]
            if deed[0] == "write":
                answer = frame is not None
                if answer:
                    words[frame, deed[2] % 16] = deed[3]
            elif frame is not None:
                answer = words.get((frame, deed[2] % 16), 0)
        else:
            ahead, model.causes = model.looks(), []
            model.do(deed)
            behind = model.looks()
            lost = {place for place, (frame, letters) in ahead.items() if place not in behind
                    or behind[place][0] != frame or not letters <= behind[place][1]}
            lost &= {place for cause, place in model.causes if cause in empties}
            rows = [row for row in rows if row[0] not in lost]
        answers.append(answer)
    return tuple(answers)


class PlainTest(unittest.TestCase, Checks):
    def test_each_kind_of_answer(self):
        course = (MAP, READ, WRITE, READ, ("read", 0, 0), ("write", 0, 0, 9), READ, ("read", 1, 49), ("read", 1, 0),
                  ("write", 1, 0, 1), ("unmap", 0, (0, 1), "r", False), READ, ("write", 1, 48, 3), ("read", 0, 0),
                  ("unmap", 0, (0, 1), "w", False), WRITE, ("read", 0, 0))
        self.same(plain(TWO, course),
                  (None, 0, True, 7, 7, True, 9, 0, None, False, None, None, True, 3, None, False, 3))
        self.same(writers(TWO, course),
                  (None, None, None, 2, 2, None, 5, None, None, None, None, None, None, 12, None, None, 12))
        self.same(plain(TWO, ()), ())
        self.same(writers(TWO, ()), ())

    def test_random_courses(self):
        for seed in range(60):
            chance = random.Random(seed)
            spaces = Spaces(f"frames {chance.randrange(1, 4)}\ntasks 3")
            course = random_course(chance, chance.randrange(41), 3)
            answers, numbers = played(spaces, course)
            self.same(plain(spaces, course), answers)
            self.same(writers(spaces, course), numbers)

    def test_wrong_courses(self):
        for call in (plain, writers, lambda spaces, course: kept(spaces, course, None)):
            for deed in WRONG_DEEDS:
                self.fails(BadCourse, (READ, deed), call, TWO, (READ, deed))
            self.fails(BadCourse, (READ,) * 41, call, TWO, (READ,) * 41)
            self.fails(BadCourse, [READ], call, TWO, [READ])
            for value in ANY_VALUES:
                if value != ():
                    self.fails(BadCourse, value, call, TWO, value)
        self.assertEqual(len(plain(TWO, (READ,) * 40)), 40)


class KeptTest(unittest.TestCase, Checks):
    def answers(self, course, empties, spaces=TWO):
        return kept(spaces, course, empties)

    def test_each_cause_by_itself(self):
        for cause in CAUSES:
            course = (MAP, WRITE, TAKERS[cause], READ)
            for lot in LOTS:
                last = plain(TWO, course)[3] if cause in lot else 7
                self.same(self.answers(course, lot), (None, True, None, last))

    def test_letters_that_are_lacked(self):
        course = (MAP, WRITE, ("unmap", 0, (0, 1), "w", False), WRITE, READ)
        self.same(self.answers(course, ()), (None, True, None, True, 7))
        self.same(self.answers(course, ("beneath",)), (None, True, None, False, 7))

    def test_own_and_beneath_at_once(self):
        # Page 4 came from page 3: unmapped with own, both in the block.
        course = (MAP, ("map", 1, (3, 1), 1, (4, 1), 0, "rw"), ("write", 1, 64, 5),
                  ("unmap", 1, (2, 2), "rw", True), ("read", 1, 64))
        self.same(self.answers(course, ()), (None, None, True, None, 5))
        self.same(self.answers(course, ("own",)), (None, None, True, None, 5))
        self.same(self.answers(course, ("beneath",)), (None, None, True, None, None))
        both = course[:3] + (("unmap", 1, (4, 1), "rw", True), ("read", 1, 64))
        self.same(self.answers(both, ("beneath",)), (None, None, True, None, 5))
        self.same(self.answers(both, ("own",)), (None, None, True, None, None))
        whole = course[:3] + (("unmap", 1, (0, 8), "rw", True), ("read", 1, 64))
        for lot in (("own",), ("beneath",)):
            self.same(self.answers(whole, lot), (None, None, True, None, None))

    def test_moved_with_fewer_letters(self):
        course = (MAP, ("map", 1, (3, 1), 1, (4, 1), 0, "rw"), ("write", 1, 64, 5),
                  ("grant", 1, (3, 1), 1, (5, 1), 0, "w"), ("read", 1, 64), ("write", 1, 64, 6))
        for lot in LOTS:
            self.same(self.answers(course, lot)[4], None if "beneath" in lot else 5)
        same = course[:3] + (("grant", 1, (3, 1), 1, (5, 1), 0, "rw"), ("read", 1, 64))
        for lot in LOTS:
            self.same(self.answers(same, lot)[4], 5)

    def test_beneath_the_window(self):
        course = (MAP, ("map", 1, (3, 1), 1, (4, 1), 0, "rw"), ("write", 1, 64, 5), TAKERS["window"],
                  ("read", 1, 64))
        for lot in LOTS:
            self.same(self.answers(course, lot)[4], None if "window" in lot else 5)

    def test_letters_that_come_do_not_strike(self):
        course = (("map", 0, (0, 1), 1, (3, 1), 0, "r"), READ, ("map", 0, (0, 1), 1, (3, 1), 0, "w"), WRITE, READ)
        for lot in LOTS:
            self.same(self.answers(course, lot), (None, 0, None, True, 7))

    def test_what_is_lost_and_comes_again_by_one_deed_stays(self):
        # The first pair empties page 3 as beneath page 2, the second one gives it the same frame again.
        spaces = Spaces("frames 2\ntasks 2\npage 1 2 rw 0 1\npage 1 3 rw 1 2")
        course = (("write", 1, 63, 5), ("map", 0, (0, 2), 1, (2, 2), 0, "rw"), ("unmap", 0, (1, 1), "rw", False),
                  ("read", 1, 63))
        for lot in LOTS:
            self.same(self.answers(course, lot, spaces), (True, None, None, None if "beneath" in lot else 5))

    def test_two_rows_at_most(self):
        three = Spaces("frames 3\ntasks 2")
        maps = tuple(("map", 0, (at, 1), 1, (at, 1), 0, "rw") for at in range(3))
        fill = tuple(("write", 1, 16 * at, at + 5) for at in range(3))
        away = ("unmap", 0, (0, 4), "rwx", False)
        reads = tuple(("read", 1, 16 * at) for at in range(3))
        self.same(self.answers(maps + fill + (away,) + reads, (), three)[7:], (None, 6, 7))
        # Reading by a kept row does not bring it to the end.
        again = maps + fill[:2] + (("read", 1, 0),) + fill[2:] + (away,) + reads
        self.same(self.answers(again, (), three)[8:], (None, 6, 7))

    def test_rows_of_all_tasks_together(self):
        three = Spaces("frames 3\ntasks 3\npage 1 0 rw 0 0\npage 2 0 rw 0 1\npage 2 1 rw 0 2")
        course = (("write", 1, 0, 5), ("write", 2, 0, 6), ("write", 2, 16, 7), ("unmap", 0, (0, 4), "rwx", False),
                  ("read", 1, 0), ("read", 2, 0), ("read", 2, 16))
        self.same(self.answers(course, (), three)[4:], (None, 6, 7))

    def test_a_row_is_replaced_in_its_place(self):
        # Page 0 is kept with r, then anew with rw: it stays the first one, and goes first.
        three = Spaces("frames 3\ntasks 2\npage 1 0 r 0 0\npage 1 1 rw 0 1\npage 1 2 rw 0 2")
        course = (("read", 1, 0), ("read", 1, 16), ("map", 0, (0, 1), 1, (0, 1), 0, "w"), ("write", 1, 0, 5),
                  ("read", 1, 32), ("unmap", 0, (0, 4), "rwx", False), ("read", 1, 0), ("read", 1, 16), ("read", 1, 32))
        self.same(self.answers(course, (), three), (0, 0, None, True, 0, None, None, 0, 0))

    def test_a_kept_row_goes_ahead_of_the_spaces(self):
        course = (MAP, WRITE, ("map", 0, (1, 1), 1, (3, 1), 0, "rw"), ("write", 1, 48, 9), ("read", 0, 0),
                  ("read", 0, 16))
        self.same(self.answers(course, ()), (None, True, None, True, 9, 0))
        self.same(self.answers(course, ("window",)), (None, True, None, True, 7, 9))

    def test_what_is_not_done_is_not_kept(self):
        course = (("read", 1, 48), MAP, READ, ("unmap", 0, (0, 1), "rw", False), READ)
        self.same(self.answers(course, CAUSES), (None, None, 0, None, None))
        self.same(self.answers(course, ()), (None, None, 0, None, 0))

    def test_all_four_tell_what_plain_does(self):
        for seed in range(150):
            chance = random.Random(seed)
            spaces = Spaces(f"frames {chance.randrange(1, 4)}\ntasks 3")
            course = random_course(chance, 40, 3)
            self.same(kept(spaces, course, CAUSES), plain(spaces, course))

    def test_random_courses_beside_a_model(self):
        apart = set()
        for seed in range(250):
            chance = random.Random(seed)
            frames = chance.randrange(1, 4)
            course = random_course(chance, 40, 3)
            spaces = Spaces(f"frames {frames}\ntasks 3")
            for lot in LOTS:
                answers = kept(spaces, course, lot)
                self.same(answers, kept_by_model(frames, 3, course, lot))
                if answers != plain(spaces, course):
                    apart.add(lot)
        self.assertEqual(apart, set(LOTS[:-1]))

    def test_wrong_empties(self):
        for value in WRONG_EMPTIES:
            self.fails(BadEmpties, value, kept, TWO, (), value)
            self.fails(BadEmpties, value, stale, value)
            self.fails(BadEmpties, value, shows_stale, value, None)
            self.fails(BadCourse, None, kept, TWO, None, value)
        self.refuses(BadEmpties, stale, lambda value: value == ())


class StaleTest(unittest.TestCase, Checks):
    def test_all_lots(self):
        for lot in LOTS:
            value = stale(lot)
            self.assertEqual(value is None, lot == CAUSES)
            self.assertIs(shows_stale(lot, value), True)
            self.assertIs(shows_stale(lot, None), lot == CAUSES)
            if value is not None:
                text, course = value
                self.assertNotEqual(kept(Spaces(text), course, lot), plain(Spaces(text), course))
                self.assertIs(shows_stale(CAUSES, value), False)

    def test_by_each_cause(self):
        for cause in CAUSES:
            value = (TWO.text, (MAP, WRITE, TAKERS[cause], READ))
            for lot in LOTS:
                self.assertIs(shows_stale(lot, value), cause not in lot)

    def test_what_is_not_so(self):
        course = (MAP, WRITE, TAKERS["own"], READ)
        for value in ANY_VALUES + ((TWO.text, (MAP, WRITE, READ)), (TWO.text, ()), [TWO.text, course], (TWO, course),
                                   (TWO.text, list(course)), (TWO.text, course, 0), (TWO.text,), ("frames 2", course),
                                   ("frames 1\ntasks 1", course), (None, course),
                                   (TWO.text, course + (("read", 2, 0),)),
                                   (TWO.text, None), (course, TWO.text), (TWO.text, course * 11)):
            self.assertIs(shows_stale((), value), False, value)
        self.assertIs(shows_stale((), (TWO.text, course)), True)
        self.assertIs(shows_stale((), (TWO.text, course * 10)), True)


if __name__ == "__main__":
    unittest.main()
