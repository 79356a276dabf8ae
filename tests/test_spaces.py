import random
import unittest

from helpers import ANY_VALUES, Checks
from clankernel.errors import BadBlock, BadLetters, BadOwn, BadSpaces, BadSpot, BadTasks, NoTask
from clankernel.hot import block_pairs
from clankernel.spaces import Spaces

LETTERS = ("r", "rw", "rwx", "rx", "w", "wx", "x")
HEAD = "frames 4\ntasks 3"
HOME = HEAD + "\npage 1 0 rw 0 2\npage 1 1 r 0 2\npage 2 5 r 1 0"
WRONG_TASKS = (-1, 3, True, False, None, "1", (1,), [1], 6)
WRONG_BLOCKS = ((1, 2), (16, 1), (-1, 1), (0, 3), (0, 0), (0, 32), (0,), [0, 1], (True, 1), (0, True), None, 1)
WRONG_SPOTS = (-1, 16, True, None, "0", (0,))
WRONG_LETTERS = ("", "wr", "rr", "rwxr", "a", "R", "xr", "r w", 0, None, True, ("r",), ["r"], {"r": 1})


class Node:
    """A page that has a frame, by itself: a model of another shape than the program's."""

    def __init__(self, place, frame, letters, parent):
        self.place, self.frame, self.letters, self.parent = place, frame, set(letters), parent


class Model:
    def __init__(self, frames, tasks):
        self.frames, self.tasks = frames, tasks
        self.causes = []
        self.at = {(0, page): Node((0, page), page, "rwx", None) for page in range(frames)}

    def children(self, node):
        return [other for other in self.at.values() if other.parent is node]

    def all_beneath(self, node):
        return [low for child in self.children(node) for low in [child] + self.all_beneath(child)]

    def own(self, place):
        return place[0] == 0 and place[1] < self.frames

    def empty(self, place):
        if place in self.at:
            for child in self.children(self.at[place]):
                self.empty(child.place)
            del self.at[place]

    def mark(self, cause, places):
        self.causes += [(cause, place) for place in places]

    def give(self, moves, source, target, letters):
        node = self.at.get(source)
        if node is None or not node.letters & set(letters) or self.own(target) or source == target:
            return
        given = node.letters & set(letters)
        moves = moves and not self.own(source)
        there = self.at.get(target)
        if not moves and there is not None and there.parent is node:
            there.letters |= given
            return
        self.mark("window", [target])
        if there is not None:
            self.mark("window", [low.place for low in self.all_beneath(there)])
        self.empty(target)
        if source not in self.at:
            return
        if not moves:
            self.at[target] = Node(target, node.frame, given, node)
            return
        self.mark("given", [source])
        if given != node.letters:
            self.mark("beneath", [low.place for low in self.all_beneath(node)])
        for low in [node] + self.all_beneath(node):
            low.letters &= given
        for low in list(self.at.values()):
            if not low.letters:
                del self.at[low.place]
        del self.at[source]
        node.place = target
        self.at[target] = node

    def do(self, deed):
        if deed[0] in ("map", "grant"):
            _, giver, block, taker, window, spot, letters = deed
            for page, to in block_pairs(block, window, spot):
                self.give(deed[0] == "grant", (giver, page), (taker, to), letters)
        elif deed[0] == "unmap":
            _, task, (first, size), letters, own = deed
            hit = []
            for page in range(first, first + size):
                if (task, page) in self.at:
                    below = self.all_beneath(self.at[(task, page)])
                    self.mark("beneath", [low.place for low in below])
                    hit += below
                    if own and not self.own((task, page)):
                        self.mark("own", [(task, page)])
                        hit.append(self.at[(task, page)])
            for low in hit:
                low.letters -= set(letters)
            self.at = {place: node for place, node in self.at.items() if node.letters}
        else:
            for place in list(self.at):
                if place[0] in deed[1]:
                    self.empty(place)

    def looks(self):
        """Of each place that has a frame: frame and letters."""
        return {place: (node.frame, set(node.letters)) for place, node in self.at.items()}

    def text(self):
        lines = [f"frames {self.frames}", f"tasks {self.tasks}"]
        for place in sorted(self.at):
            if not self.own(place):
                node = self.at[place]
                letters = "".join(letter for letter in "rwx" if letter in node.letters)
                above = node.parent.place
                lines.append(f"page {place[0]} {place[1]} {letters} {above[0]} {above[1]}")
        return "\n".join(lines)


def done(spaces, deed):
    call = {"map": spaces.mapped, "grant": spaces.granted, "unmap": spaces.unmapped, "gone": spaces.gone}[deed[0]]
    return call(*deed[1:])


def random_deed(chance, tasks):
    def block():
        size = chance.choice((1, 1, 1, 2, 4, 8, 16))
        return (chance.randrange(0, 16, size) if size > 4 else chance.randrange(0, 8, size), size)
    kind = chance.choice(("map", "map", "map", "map", "grant", "grant", "unmap", "gone"))
    if kind in ("map", "grant"):
        return (kind, chance.randrange(tasks), block(), chance.randrange(tasks), block(), chance.randrange(16),
                chance.choice(LETTERS))
    if kind == "unmap":
        return (kind, chance.randrange(tasks), block(), chance.choice(LETTERS), chance.random() < 0.5)
    return (kind, tuple(sorted(chance.sample(range(1, tasks), chance.randrange(0, 2)))))


class TextTest(unittest.TestCase, Checks):
    def wrong(self, number, text):
        self.fails(BadSpaces, number, Spaces, text)

    def test_right_texts(self):
        for text, many in (("frames 1\ntasks 1", 0), ("frames 16\ntasks 6", 0), (HOME, 3),
                           ("frames 1\ntasks 1\npage 0 1 x 0 0\npage 0 15 x 0 1", 2),
                           ("frames 1\ntasks 2\npage 0 1 rwx 1 3\npage 1 3 rwx 0 0", 2)):
            spaces = Spaces(text)
            self.assertEqual((spaces.text, len(spaces)), (text, many))

    def test_properties(self):
        home = Spaces(HOME)
        self.same((home.frames, home.tasks), (4, 3))
        self.same(home.pages, ((1, 0, 2, "rw"), (1, 1, 2, "r"), (2, 5, 2, "r")))
        ten = Spaces("frames 2\ntasks 2\npage 1 2 r 0 0\npage 1 10 r 0 1")
        self.same(ten.pages, ((1, 2, 0, "r"), (1, 10, 1, "r")))

    def test_whether_a_value_is_in(self):
        home = Spaces(HOME)
        places = [(0, 0), (0, 1), (0, 2), (0, 3), (1, 0), (1, 1), (2, 5)]
        for task in range(-1, 8):
            for page in range(-1, 18):
                self.assertIs((task, page) in home, (task, page) in places)
        for value in ANY_VALUES + ([1, 0], (True, 0), (1, False), (1, True), (0, True), (1,), (1, 0, 2), ("1", "0"),
                                   (1, None), ((1, 0),), ((1,), 0)):
            self.assertFalse(value in home, value)

    def test_equality(self):
        self.assertTrue(Spaces(HOME) == Spaces(HOME))
        self.assertFalse(Spaces(HOME) != Spaces(HOME))
        self.assertTrue(Spaces(HOME) != Spaces(HEAD))
        for value in (HOME, None, 0, Spaces(HOME).pages):
            self.assertFalse(Spaces(HOME) == value)

    def test_no_string(self):
        for value in ANY_VALUES:
            if type(value) is not str:
                self.wrong(0, value)

    def test_first_lines(self):
        for line in ("", "frames", "frames 0", "frames 17", "frames 04", "frames -1", "frames 4 ", " frames 4",
                     "frames  4", "frames 4 4", "frames a", "Frames 4", "tasks 3", "frames 4.0", "frames +4"):
            self.wrong(1, line)
            self.wrong(1, line + "\ntasks 3")
            self.wrong(1, line + "\nwrong")
        self.wrong(2, "frames 4")
        for line in ("", "tasks", "tasks 0", "tasks 7", "tasks 03", "tasks 3 ", "tasks a", "frames 4",
                     "page 1 0 r 0 0"):
            self.wrong(2, "frames 4\n" + line)
            self.wrong(2, "frames 4\n" + line + "\nwrong")

    def test_forms_of_pages(self):
        for line in ("", "page", "page 1 0 r 0", "page 1 0 r 0 2 2", "page 1 0  0 2", "page 1 0 wr 0 2",
                     "page 1 0 rr 0 2", "page 1 0 - 0 2", "page 01 0 r 0 2", "page 1 00 r 0 2", "page 1 0 r 00 2",
                     "page 1 0 r 0 02", "page 1 0 r 0 2 ", " page 1 0 r 0 2", "page  1 0 r 0 2", "pages 1 0 r 0 2",
                     "page -1 0 r 0 2", "page 3 0 r 0 2", "page 1 16 r 0 2", "page 1 0 r 3 2", "page 1 0 r 0 16",
                     "page 0 0 r 0 2", "page 0 3 r 0 2", "page a 0 r 0 2", "tasks 3"):
            self.wrong(3, HEAD + "\n" + line)
            self.wrong(4, HEAD + "\npage 0 4 r 0 2\n" + line)
        self.wrong(3, HEAD + "\n")
        self.wrong(6, HOME + "\n")

    def test_places_ascend_as_numbers(self):
        self.wrong(4, HEAD + "\npage 1 1 r 0 2\npage 1 0 r 0 2")
        self.wrong(4, HEAD + "\npage 1 1 r 0 2\npage 1 1 r 0 2")
        self.wrong(4, HEAD + "\npage 2 0 r 0 2\npage 1 1 r 0 2")
        self.wrong(4, HEAD + "\npage 1 10 r 0 2\npage 1 9 r 0 2")
        self.assertEqual(len(Spaces(HEAD + "\npage 1 9 r 0 2\npage 1 10 r 0 2\npage 2 0 r 0 0")), 3)

    def test_parents_without_a_frame(self):
        self.wrong(3, HEAD + "\npage 1 0 r 0 4")
        self.wrong(4, HEAD + "\npage 1 0 r 0 3\npage 1 1 r 1 2\npage 1 3 r 1 4")
        self.wrong(5, HEAD + "\npage 1 0 r 1 1\npage 1 1 r 1 0\npage 1 2 r 1 9")

    def test_rings(self):
        self.wrong(3, HEAD + "\npage 1 0 r 1 0")
        self.wrong(4, HEAD + "\npage 1 0 r 0 0\npage 1 1 r 1 2\npage 1 2 r 1 1")
        self.wrong(3, HEAD + "\npage 1 0 r 1 1\npage 1 1 r 1 2\npage 1 2 r 1 1")
        self.wrong(3, HEAD + "\npage 0 4 r 0 4\npage 1 0 rw 0 0\npage 1 1 rwx 1 0")

    def test_letters_of_parents(self):
        self.wrong(4, HEAD + "\npage 1 0 r 0 0\npage 1 1 rw 1 0")
        self.wrong(3, HEAD + "\npage 1 0 rw 2 0\npage 1 1 x 2 0\npage 2 0 r 0 0")
        self.assertEqual(len(Spaces(HEAD + "\npage 1 0 rx 2 0\npage 1 1 x 2 0\npage 2 0 rwx 0 0")), 3)

    def test_sequence_of_what_is_wrong(self):
        ring, letters = "page 1 0 r 1 0", "page 1 2 w 1 1"
        self.wrong(6, "\n".join([HEAD, ring, "page 1 1 r 0 0", letters, "page 1 3 r 2 9"]))
        self.wrong(3, "\n".join([HEAD, ring, "page 1 1 r 0 0", letters]))
        self.wrong(5, "\n".join([HEAD, "page 1 0 r 0 0", "page 1 1 r 0 0", letters, "page 1 3 rw 1 0"]))
        self.wrong(7, "\n".join([HEAD, ring, "page 1 1 r 0 0", letters, "page 1 3 r 2 9", "page"]))
        for line in ("page 1 1 r 3 2", "page 1 1 r -1 2", "page 1 1 r 0 16", "page 1 16 r 0 2", "page 3 0 r 0 2"):
            self.wrong(4, "\n".join([HEAD, "page 1 0 r 2 9", line]))
        self.wrong(3, "\n".join([HEAD, "page 1 0 r 2 9", "page 1 1 r 0 15", "page 1 15 r 0 0"]))
        self.assertEqual(len(Spaces("\n".join([HEAD, "page 1 1 r 1 15", "page 1 15 r 0 0"]))), 2)


class DeedsTest(unittest.TestCase, Checks):
    def setUp(self):
        self.home = Spaces(HOME)

    def lines(self, spaces):
        return spaces.text.split("\n")[2:]

    def test_mapped(self):
        bare = Spaces(HEAD)
        one = bare.mapped(0, (1, 1), 1, (7, 1), 0, "rx")
        self.assertEqual(self.lines(one), ["page 1 7 rx 0 1"])
        self.assertEqual(self.lines(one.mapped(1, (7, 1), 2, (0, 1), 0, "rw")), ["page 1 7 rx 0 1", "page 2 0 r 1 7"])
        self.assertEqual(self.lines(bare.mapped(0, (0, 4), 1, (8, 8), 5, "w")),
                         [f"page 1 {12 + at} w 0 {at}" for at in range(4)])
        self.assertEqual(self.lines(bare.mapped(0, (0, 16), 1, (8, 2), 3, "w")),
                         ["page 1 8 w 0 2", "page 1 9 w 0 3"])
        self.assertEqual(self.lines(bare.mapped(0, (2, 2), 1, (2, 2), 0, "x")),
                         ["page 1 2 x 0 2", "page 1 3 x 0 3"])

    def test_mapped_nothing(self):
        home = self.home
        for deed in ((0, (4, 1), 1, (9, 1), 0, "rwx"), (1, (9, 1), 2, (9, 1), 0, "rwx"),
                     (1, (1, 1), 2, (9, 1), 0, "wx"),
                     (1, (0, 1), 0, (3, 1), 0, "rwx"), (0, (0, 1), 0, (0, 1), 0, "rwx"),
                     (1, (0, 1), 1, (0, 1), 0, "r")):
            self.assertTrue(home.mapped(*deed) == home, deed)
            self.assertTrue(home.granted(*deed) == home, deed)

    def test_mapped_again_from_the_same_page_adds_letters(self):
        more = self.home.mapped(0, (2, 1), 1, (1, 1), 0, "x")
        self.assertEqual(self.lines(more), ["page 1 0 rw 0 2", "page 1 1 rx 0 2", "page 2 5 r 1 0"])
        kept = self.home.mapped(1, (0, 1), 2, (5, 1), 0, "w")
        self.assertEqual(self.lines(kept)[2], "page 2 5 rw 1 0")
        self.assertTrue(self.home.mapped(1, (0, 1), 2, (5, 1), 0, "rx") == self.home)
        below = self.home.mapped(0, (2, 1), 1, (0, 1), 0, "x")
        self.assertEqual(self.lines(below), ["page 1 0 rwx 0 2", "page 1 1 r 0 2", "page 2 5 r 1 0"])

    def test_mapped_onto_a_page_of_another_parent_empties_it(self):
        self.assertEqual(self.lines(self.home.mapped(0, (3, 1), 1, (0, 1), 0, "r")),
                         ["page 1 0 r 0 3", "page 1 1 r 0 2"])
        self.assertEqual(self.lines(self.home.mapped(0, (2, 1), 2, (5, 1), 0, "w")),
                         ["page 1 0 rw 0 2", "page 1 1 r 0 2", "page 2 5 w 0 2"])

    def test_mapped_above(self):
        self.assertEqual(self.lines(self.home.mapped(2, (5, 1), 1, (0, 1), 0, "r")), ["page 1 1 r 0 2"])
        self.assertEqual(self.lines(self.home.granted(2, (5, 1), 1, (0, 1), 0, "r")), ["page 1 1 r 0 2"])

    def test_pairs_are_asked_anew(self):
        # The first pair empties the page of which the second one would give.
        chain = Spaces(HEAD + "\npage 1 0 rwx 0 0\npage 1 1 rwx 2 0\npage 2 0 rwx 0 1")
        self.assertEqual(self.lines(chain.mapped(1, (0, 2), 2, (0, 2), 0, "r")), ["page 1 0 rwx 0 0", "page 2 0 r 1 0"])

    def test_own_pages_of_the_root_behind_its_frames(self):
        more = self.home.mapped(1, (0, 1), 0, (4, 1), 0, "r")
        self.assertEqual(self.lines(more)[0], "page 0 4 r 1 0")
        self.assertEqual(self.lines(more.granted(0, (4, 1), 2, (0, 1), 0, "r"))[2], "page 2 0 r 1 0")
        self.assertEqual(self.lines(more.mapped(0, (0, 1), 0, (4, 1), 0, "w"))[0], "page 0 4 w 0 0")

    def test_granted(self):
        moved = self.home.granted(1, (0, 1), 2, (0, 1), 0, "rwx")
        self.assertEqual(self.lines(moved), ["page 1 1 r 0 2", "page 2 0 rw 0 2", "page 2 5 r 2 0"])
        less = self.home.granted(1, (0, 1), 2, (0, 1), 0, "w")
        self.assertEqual(self.lines(less), ["page 1 1 r 0 2", "page 2 0 w 0 2"])
        low = self.home.granted(2, (5, 1), 2, (6, 1), 0, "rw")
        self.assertEqual(self.lines(low), ["page 1 0 rw 0 2", "page 1 1 r 0 2", "page 2 6 r 1 0"])

    def test_granted_by_the_root_is_mapped(self):
        deed = (0, (2, 1), 1, (1, 1), 0, "w")
        self.assertTrue(self.home.granted(*deed) == self.home.mapped(*deed))
        self.assertEqual(self.lines(Spaces(HEAD).granted(0, (2, 1), 1, (1, 1), 0, "w")), ["page 1 1 w 0 2"])

    def test_granted_onto_what_came_of_it(self):
        onto = self.home.granted(1, (0, 1), 2, (5, 1), 0, "r")
        self.assertEqual(self.lines(onto), ["page 1 1 r 0 2", "page 2 5 r 0 2"])
        two = self.home.mapped(2, (5, 1), 2, (6, 1), 0, "r").mapped(1, (0, 1), 2, (7, 1), 0, "rw")
        self.assertEqual(self.lines(two.granted(1, (0, 1), 2, (5, 1), 0, "rw")),
                         ["page 1 1 r 0 2", "page 2 5 rw 0 2", "page 2 7 rw 2 5"])

    def test_unmapped(self):
        home = self.home
        self.assertEqual(self.lines(home.unmapped(0, (2, 1), "r", False)), ["page 1 0 w 0 2"])
        self.assertTrue(home.unmapped(0, (2, 1), "r", True) == home.unmapped(0, (2, 1), "r", False))
        self.assertTrue(home.unmapped(0, (0, 2), "rwx", True) == home)
        self.assertEqual(self.lines(home.unmapped(1, (0, 1), "r", False)), ["page 1 0 rw 0 2", "page 1 1 r 0 2"])
        self.assertEqual(self.lines(home.unmapped(1, (0, 1), "r", True)), ["page 1 0 w 0 2", "page 1 1 r 0 2"])
        self.assertEqual(self.lines(home.unmapped(1, (0, 2), "rwx", True)), [])
        self.assertTrue(home.unmapped(1, (0, 16), "x", True) == home)
        self.assertEqual(self.lines(home.unmapped(0, (0, 16), "w", False))[0], "page 1 0 r 0 2")
        deep = Spaces("frames 1\ntasks 3\npage 1 0 rw 0 0\npage 1 1 rw 1 0\npage 2 0 w 1 1")
        self.assertEqual(self.lines(deep.unmapped(1, (0, 1), "w", False)), ["page 1 0 rw 0 0", "page 1 1 r 1 0"])

    def test_gone(self):
        home = self.home
        self.assertTrue(home.gone(()) == home)
        self.assertEqual(self.lines(home.gone((1,))), [])
        self.assertEqual(self.lines(home.gone((2,))), ["page 1 0 rw 0 2", "page 1 1 r 0 2"])
        self.assertEqual(home.gone((1, 2)).text, HEAD)
        back = home.mapped(2, (5, 1), 0, (8, 1), 0, "r").gone((2,))
        self.assertEqual(self.lines(back), ["page 1 0 rw 0 2", "page 1 1 r 0 2"])
        for tasks in ((0,), (0, 1), (2, 1), (1, 1), (3,), (-1,), [1], (True,), ("1",), None, 1, ((1,),), (None,)):
            self.fails(BadTasks, tasks, home.gone, tasks)
        self.refuses(BadTasks, home.gone, lambda value: value in ((), (1,), (1, 2)) and type(value) is tuple)

    def test_errors_in_sequence(self):
        for call in (self.home.mapped, self.home.granted):
            for task in WRONG_TASKS:
                self.fails(NoTask, task, call, task, None, None, None, None, None)
                self.fails(NoTask, task, call, 0, (0, 1), task, None, None, None)
            for block in WRONG_BLOCKS:
                self.fails(BadBlock, block, call, 0, block, None, None, None, None)
                self.fails(BadBlock, block, call, 0, (0, 1), 0, block, None, None)
            for spot in WRONG_SPOTS:
                self.fails(BadSpot, spot, call, 0, (0, 1), 0, (0, 1), spot, None)
            for letters in WRONG_LETTERS:
                self.fails(BadLetters, letters, call, 0, (0, 1), 0, (0, 1), 0, letters)

    def test_errors_of_unmapped_in_sequence(self):
        call = self.home.unmapped
        for task in WRONG_TASKS:
            self.fails(NoTask, task, call, task, None, None, None)
        for block in WRONG_BLOCKS:
            self.fails(BadBlock, block, call, 0, block, None, None)
        for letters in WRONG_LETTERS:
            self.fails(BadLetters, letters, call, 0, (0, 1), letters, None)
        for own in (0, 1, None, "True", (True,)):
            self.fails(BadOwn, own, call, 0, (0, 1), "r", own)

    def test_what_is_asked_stays(self):
        home = self.home
        home.mapped(0, (3, 1), 1, (0, 1), 0, "r")
        home.granted(1, (0, 1), 2, (0, 1), 0, "r")
        home.unmapped(0, (0, 4), "rwx", True)
        home.gone((1, 2))
        self.assertEqual((home.text, home.pages, len(home)), (HOME, Spaces(HOME).pages, 3))
        self.assertTrue((1, 0) in home)
        self.assertTrue(home.mapped(0, (3, 1), 1, (0, 1), 0, "r") == home.mapped(0, (3, 1), 1, (0, 1), 0, "r"))

    def test_many_deeds_beside_a_model(self):
        for seed in range(60):
            chance = random.Random(seed)
            frames, tasks = chance.randrange(1, 17), chance.randrange(2, 7)
            spaces, model = Spaces(f"frames {frames}\ntasks {tasks}"), Model(frames, tasks)
            for _ in range(60):
                deed = random_deed(chance, tasks)
                spaces = done(spaces, deed)
                model.do(deed)
                self.assertEqual(spaces.text, model.text(), (seed, deed))
                self.assertEqual(dict(((task, page), frame) for task, page, frame, _ in spaces.pages),
                                 {place: node.frame for place, node in model.at.items() if not model.own(place)})


if __name__ == "__main__":
    unittest.main()
