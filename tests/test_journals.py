import unittest

from helpers import ANY_VALUES, Checks
from stage import edited, stage
from programs import paged_system, system
from clankernel.errors import BadJournal, NoSystem
from clankernel.images import from_image, image
from clankernel.journals import journal, read_journal
from clankernel.kernel import Kernel
from clankernel.systems import System

SMALL = "frames 1\ntask 0 -\nthread 0 0 0 4 5 ready\ndevice - 0\nturns slices\ninput 2 0 7"


class JournalTest(unittest.TestCase, Checks):
    def test_of_deeds_that_stand(self):
        kernel = Kernel(System(SMALL))
        self.assertEqual(journal(kernel), SMALL + "\nkernel")
        kernel.run(3)
        kernel.tell(0, 65535)
        kernel.tell(0, 0)
        kernel.run(1)
        kernel.run(396)
        self.assertEqual(journal(kernel=kernel), SMALL + "\nkernel\nrun 3\ntell 0 65535\ntell 0 0\nrun 1\nrun 396")
        kernel.undo()
        self.assertEqual(journal(kernel), SMALL + "\nkernel\nrun 3\ntell 0 65535\ntell 0 0\nrun 1")
        kernel.redo()
        kernel.undo()
        kernel.undo()
        kernel.run(2)
        self.assertEqual(journal(kernel), SMALL + "\nkernel\nrun 3\ntell 0 65535\ntell 0 0\nrun 2")

    def test_of_blocks(self):
        kernel = Kernel(System(SMALL))
        kernel.run(1)
        with kernel.trial():
            kernel.run(2)
            self.assertEqual(journal(kernel), SMALL + "\nkernel\nrun 1\nrun 2")
        self.assertEqual(journal(kernel), SMALL + "\nkernel\nrun 1")
        kernel.tried(lambda held: held.tell(0, 3), keep=True)
        self.assertEqual(journal(kernel), SMALL + "\nkernel\nrun 1\ntell 0 3")
        self.assertEqual(journal(kernel.copy()), journal(kernel))

    def test_without_a_system(self):
        kernel = from_image(image(Kernel(System(SMALL))))
        self.fails(NoSystem, None, journal, kernel)
        kernel.run(1)
        self.fails(NoSystem, None, journal, kernel.copy())

    def test_read_it_leads_to_an_equal_kernel(self):
        told, _ = paged_system("set r1 20\nload r0 r1 0\ntrap 0\nat 20\nword 5")
        for world in (System(SMALL), told, system("counter", ((5, ((1, 3, 0, 0), (2, 0, 0, 0)), True),)), stage().system):
            kernel = Kernel(world)
            for ticks in (1, 7, 60):
                kernel.run(ticks)
                if len(kernel.devices) > 0:
                    kernel.tell(0, ticks)
                kernel.run(2)
                kernel.undo()
                again = read_journal(text=journal(kernel))
                self.assertTrue(again == kernel)
                self.same((again.deeds, again.done, again.system.text), (kernel.deeds, kernel.done, kernel.system.text))
                self.same(again.run(30), kernel.copy().run(30))
                self.assertRaises(ValueError, again.redo)
                again.undo()
                again.undo()
                other = kernel.copy()
                other.undo()
                self.assertTrue(again == other)


class ReadTest(unittest.TestCase, Checks):
    def bad(self, number, text):
        self.fails(BadJournal, number, read_journal, text)

    def test_no_string(self):
        for value in ANY_VALUES:
            if type(value) is not str:
                self.bad(0, value)

    def test_no_line_kernel(self):
        self.bad(2, "")
        self.bad(7, SMALL)
        self.bad(8, SMALL + "\nrun 1")
        self.bad(4, "wrong\nrun x\n")
        self.bad(8, SMALL + "\nkernel ")
        self.bad(8, SMALL + "\nKernel")
        self.bad(10, "what\n" + SMALL + "\nrun 1\nrun -1")

    def test_a_wrong_system(self):
        self.bad(1, "kernel")
        self.bad(1, "kernel\nkernel")
        self.bad(1, "\nkernel")
        lines = SMALL.split("\n")
        for at in range(len(lines)):
            self.bad(at + 1, "\n".join(lines[:at] + ["wrong"] + lines[at + 1:] + ["kernel", "wrong"]))
        # Lines that are missing behind all of them: the line kernel stands there.
        self.bad(4, "\n".join(lines[:3] + ["kernel"]))
        self.bad(5, "\n".join(lines[:4] + ["kernel", "run 1"]))
        # What is told of pages by its second look.
        self.bad(4, "frames 1\ntask 0 -\nthread 0 0 0 4 5 ready\npage 0 1 r 0 2\nturns slices\nkernel")
        # The first line kernel ends the system.
        self.bad(3, "\n".join(lines[:2] + ["kernel"] + lines[2:] + ["kernel"]))

    def test_wrong_deeds(self):
        for line in ("", " ", "run", "run ", "run 0", "run 401", "run -1", "run 01", "run 1 ", " run 1", "run  1", "run 1 1", "run x", "run +1", "run -0", "Run 1", "runs 1",
                     "tell", "tell 0", "tell 1 0", "tell 0 65536", "tell 0 -1", "tell -1 0", "tell 00 1", "tell 0 1 2", "tell 0 x", "undo", "redo", "kernel", "input 3 0 1", "tick", "# run"):
            self.bad(8, SMALL + "\nkernel\n" + line)
            self.bad(10, SMALL + "\nkernel\nrun 1\ntell 0 5\n" + line + "\nrun 0")
        self.bad(9, SMALL + "\nkernel\nrun 400\nrun 1")
        self.bad(9, SMALL + "\nkernel\nrun 400\ntell 0 0")
        self.bad(10, SMALL + "\nkernel\nrun 200\nrun 200\nrun 1\nwrong")

    def test_right_ones(self):
        for many in (0, 1, 400):
            kernel = read_journal(SMALL + "\nkernel" + "\nrun 1" * many)
            self.assertEqual((kernel.tick, kernel.done, kernel.system.text), (many, many, SMALL))
        self.assertEqual(read_journal(SMALL + "\nkernel\ntell 0 65535\nrun 400").deeds, (("tell", 0, 65535), ("run", 400)))

    def test_deeds_that_a_kernel_without_them_is_not_equal_to(self):
        base = Kernel(System(SMALL))
        self.assertTrue(read_journal(SMALL + "\nkernel") == base)
        self.assertTrue(read_journal(SMALL + "\nkernel\nrun 1") != base)
        self.assertTrue(edited(read_journal(SMALL + "\nkernel")) == base)


if __name__ == "__main__":
    unittest.main()
