import unittest

from helpers import ANY_VALUES, Checks
from programs import system
from clankernel.desk import Desk
from clankernel.errors import (
    BadJournal, BadLine, BadNumber, BadWord, Late, NoDevice, NoFrame, NoTask, NoThread, NothingToRedo, NothingToUndo)
from clankernel.images import image
from clankernel.journals import journal, read_journal

SMALL = "frames 2\ntask 0 -\ntask 1 0\nthread 0 0 0 4 5 ready\nthread 1 1 9 4 5 rests\npage 1 3 w 0 1\nwords 0 4097 12801 24577 0 0 0 0 0 0 0 0 0 0 0 0 0\ndevice - 0\nturns slices"
START = SMALL + "\nkernel"


class DeskTest(unittest.TestCase, Checks):
    def test_its_kernel(self):
        desk = Desk(START + "\nrun 3\ntell 0 5")
        self.assertEqual((desk.kernel.tick, desk.kernel.deeds), (3, (("run", 3), ("tell", 0, 5))))
        self.assertIn("kernel", vars(desk))
        kernel = desk.kernel
        desk.say("run 2")
        self.assertIs(desk.kernel, kernel)
        self.assertEqual(kernel.tick, 5)
        kernel.undo()
        self.assertEqual(desk.say(line="tick"), "3")

    def test_wrong_journals(self):
        for text in (None, 5, "", SMALL, START + "\nrun 0", "kernel", START + "\nundo"):
            with self.assertRaises(BadJournal) as wrong:
                read_journal(text)
            self.fails(BadJournal, wrong.exception.value, Desk, text)

    def test_deeds(self):
        desk = Desk(text=START)
        for line, ticks in (("run 3", 3), ("tell 0 65535", 3), ("run 1", 4), ("undo", 3), ("undo", 3), ("undo", 0), ("redo", 3), ("redo", 3), ("redo", 4), ("run 396", 400)):
            self.same(desk.say(line), "ok")
            self.same(desk.say("tick"), str(ticks))
        self.assertEqual(journal(desk.kernel), START + "\nrun 3\ntell 0 65535\nrun 1\nrun 396")

    def test_what_it_tells(self):
        desk = Desk(START)
        self.same([desk.say(line) for line in ("state 0", "state 1", "place 0", "place 1", "registers 0")], ["ready", "rests", "0", "9", "0 0 0 0 0 0 0 0"])
        desk.say("run 4")
        # set r0 1, add r1 r0, jump 1, add r1 r0.
        self.same([desk.say(line) for line in ("place 0", "registers 0", "word 0 0", "word 1 15", "read 0 1", "read 1 0", "read 1 48", "read 0 31")],
                  ["2", "1 2 0 0 0 0 0 0", "4097", "0", "12801", "fault", "fault", "0"])
        self.same(desk.say("read 0 32"), "fault")
        self.assertEqual(desk.kernel.done, 1)

    def test_ahead(self):
        desk = Desk(START)
        before = image(desk.kernel)
        self.same([desk.say(f"ahead {ticks}") for ticks in (1, 10, 400)], ["1 0 0", "10 0 0", "400 0 0"])
        self.same((image(desk.kernel), desk.kernel.deeds), (before, ()))
        desk.say("run 5")
        desk.say("undo")
        desk.say("ahead 7")
        self.same(desk.say("redo"), "ok")
        desk = Desk(system("echo", ((5, ((1, 2, 3, 4), (5, 6, 7, 8)), True),)).text + "\nkernel")
        events = desk.kernel.copy().run(150)
        kinds = [event[1] for event in events]
        self.same(desk.say("ahead 150"), f"{len(events)} {kinds.count('met')} {kinds.count('fault')}")
        self.assertEqual((kinds.count("met"), kinds.count("fault")), (4, 1))
        self.fails(Late, 400, Desk(START + "\nrun 100").say, "ahead 301")

    def test_wrong_lines(self):
        desk = Desk(START)
        desk.say("run 3")
        desk.say("undo")
        before = image(desk.kernel)
        lines = ["", " ", "run", "run ", "run x", "run 1 2", "run 1 ", " run 1", "run  1", "run 01", "run +1", "run -0", "run --1", "run -", "run 1.0", "Run 1", "runs 1", "tell", "tell 0",
                 "tell 0 1 2", "tell x 1", "tell 0 x", "undo 1", "undo ", "redo 0", "tick 0", "ticks", "state", "state 0 1", "state x", "place", "place 0 0", "registers", "registers 0 0",
                 "word 0", "word", "word 0 0 0", "word 0 x", "read 0", "read", "read 0 0 0", "ahead", "ahead 1 1", "ahead x", "keep", "trial", "copy", "kernel", "# run", "run\t1",
                 "run 1\n", "tick\n", "\ntick", "tick\ntick", "run 1\nrun 1"]
        for value in list(ANY_VALUES) + lines:
            self.fails(BadLine, value, desk.say, value)
        self.assertEqual(image(desk.kernel), before)
        self.same(desk.say("redo"), "ok")

    def test_what_the_kernel_raises(self):
        desk = Desk(START)
        for error, value, line in (
                (BadNumber, 0, "run 0"), (BadNumber, -1, "run -1"), (BadNumber, 401, "run 401"), (BadNumber, 999999999, "run 999999999"), (NoDevice, 1, "tell 1 0"), (NoDevice, -1, "tell -1 -1"),
                (BadWord, 65536, "tell 0 65536"), (BadWord, -1, "tell 0 -1"), (NothingToUndo, None, "undo"), (NothingToRedo, None, "redo"), (NoThread, 2, "state 2"),
                (NoThread, -1, "state -1"), (NoThread, 2, "place 2"), (NoThread, -7, "registers -7"), (NoFrame, 2, "word 2 0"), (NoFrame, -1, "word -1 99"), (BadNumber, 16, "word 1 16"),
                (BadNumber, -1, "word 0 -1"), (NoTask, 2, "read 2 0"), (NoTask, -1, "read -1 -1"), (BadNumber, 256, "read 1 256"), (BadNumber, -1, "read 0 -1"),
                (BadNumber, 0, "ahead 0"), (BadNumber, -5, "ahead -5"), (BadNumber, 401, "ahead 401")):
            self.fails(error, value, desk.say, line)
        desk.say("run 400")
        for line in ("run 1", "tell 0 0", "ahead 1"):
            self.fails(Late, 400, desk.say, line)
        self.same(desk.say("tick"), "400")


if __name__ == "__main__":
    unittest.main()
