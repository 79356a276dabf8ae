import unittest

from helpers import ANY_VALUES, Checks
from runs import random_run
from stage import TRAP, act, edited, limits, receiving, sixteen, stage, told_by
from clankernel.errors import BadImage
from clankernel.images import from_image, image
from clankernel.kernel import Kernel
from clankernel.systems import System

W = (1, 2, 3, 4)


def rich():
    """A kernel of which an image has lines of each kind."""
    kernel = stage(doors=["doors 1 - 2", "doors 3 3 15", "doors 5 2 -"], words={2: sixteen(5, 20, 3), 3: sixteen(1, 20, 2)},
                   inputs=["input 3 0 9", "input 9 1 65535", "input 9 2 0", "input 400 0 1"])
    # 4 means gate 1: its chief 2 has the passing right; then it means gate 0, and waits at the border.
    kernel, _ = told_by(receiving(kernel, 2), 4, 0, 1, 255, 0, *W)
    kernel, _ = told_by(kernel, 4, 0, 0, 255, limits(200, 0), *W)
    # 1 faults, and 2 has it; 5 faults, and waits; 6 waits with items; 3 sends with the end alone.
    kernel, _ = act(receiving(kernel, 2, 2), 1, TRAP)
    kernel, _ = act(kernel, 5, 100)
    kernel, _ = told_by(kernel, 6, 0, 0, 253, limits(None, 7), *W, 16)
    kernel, _ = told_by(kernel, 3, 0, 5, 255, limits(None, 0), 9, 9, 9, 9, 19)
    kernel = edited(kernel, {0: (9, (1, 2, 3, 4, 5, 6, 7, 65535))}, (2, 0))
    kernel.tell(2, 77)
    kernel.tell(0, 78)
    return kernel


class ImageTest(unittest.TestCase, Checks):
    def test_at_tick_0(self):
        small = "frames 2\ntask 0 -\nthread 0 0 7 4 5 ready\nturns 0 3"
        self.assertEqual(image(Kernel(System(small))), """tick 0
cell 0 7 0 0 0 0 0 0 0 0 ready - -
world spaces
frames 2
tasks 1
world rights
tasks 1
next 0
world clans
clans 1
task 0 - none
world waits
now 0
threads 4
gates
world turns
manner table 0 3
at 0
thread 0 4 5 5
row 0
world devices
none""")

    def test_each_kind_of_lines(self):
        kernel = rich()
        self.assertEqual(kernel.tick, 8)
        lines = image(kernel).split("\n")
        ahead = lines[:lines.index("world spaces")]
        self.assertEqual(ahead, [
            "tick 8", "cell 0 9 1 2 3 4 5 6 7 65535 ready - -", "cell 1 8 0 0 0 0 0 0 0 0 faults - 2",
            "cell 2 1 0 102 2 7 9 7 0 0 ready - -", "cell 3 1 5 255 65280 9 9 9 9 19 sends 3 15", "cell 4 1 0 255 51200 1 2 3 4 0 sends - -",
            "cell 5 100 0 0 0 0 0 0 0 0 faults 2 -", "cell 6 1 0 253 65287 1 2 3 4 16 sends - -",
            "border 1 5", "border 2 6", "passing 2 1 - 4", "meant 4 0 4", "items 3 0", "items 6 1 20 2 0 0",
            "fault 1 trap 9 -", "fault 5 page x 100"])
        worlds = [lines.index(f"world {name}") for name in ("spaces", "rights", "clans", "waits", "turns", "devices")]
        self.assertEqual(worlds, sorted(worlds))
        for name, start, end in zip(("spaces", "rights", "clans", "waits", "turns", "devices"), worlds, worlds[1:] + [worlds[5] + 4]):
            self.assertEqual("\n".join(lines[start + 1:end]), getattr(kernel, name).text)
        behind = lines[worlds[5] + 4:]
        self.assertEqual([line.split(" ")[:2] for line in behind[:3]], [["words", "0"], ["words", "2"], ["words", "3"]])
        self.assertEqual(behind[1], "words 2 5 20 3" + " 0" * 13)
        # What was told rings at the next tick, behind what a system tells for it.
        self.assertEqual(behind[3:], ["input 9 1 65535", "input 9 2 0", "input 9 2 77", "input 9 0 78", "input 400 0 1"])

    def test_a_passing_right_with_a_badge_and_other_faults(self):
        kernel, _ = told_by(receiving(stage(doors=["doors 4 - 2"]), 1), 3, 0, 2, 255, 0, *W)
        self.assertIn("\npassing 1 2 302 3\n", image(kernel))
        for place, registers, line in ((8, (), "fault 4 row 0 -"), (10, (0, 300), "fault 4 beyond 300 -"), (12, (), "fault 4 nought 12 -"), (7, (), "fault 4 trap 9 -")):
            later, _ = act(kernel, 4, place, *registers)
            self.assertIn("\n" + line + "\n", image(later))
            self.assertEqual(later.state(4), "faults")
            self.assertTrue(from_image(image(later)) == later)

    def test_by_name(self):
        kernel = rich()
        self.assertTrue(from_image(text=image(kernel=kernel)) == kernel)


class FromImageTest(unittest.TestCase, Checks):
    def test_it_stands_so_without_a_system_or_deeds(self):
        kernel = rich()
        again = from_image(image(kernel))
        self.assertTrue(again == kernel)
        self.assertEqual(image(again), image(kernel))
        self.same((again.system, again.deeds, again.done, again.tick), (None, (), 0, 8))
        for name in ("spaces", "rights", "clans", "waits", "turns", "devices"):
            self.assertTrue(getattr(again, name) == getattr(kernel, name))
        for thread in range(7):
            self.assertTrue(again.cell(thread) == kernel.cell(thread))
            self.same((again.state(thread), again.doors(thread), again.passing(thread)), (kernel.state(thread), kernel.doors(thread), kernel.passing(thread)))
        self.assertRaises(ValueError, again.undo)

    def test_it_goes_on_alike(self):
        kernel = rich()
        again = from_image(image(kernel))
        self.same(again.run(60), kernel.run(60))
        self.assertTrue(again == kernel)

    def test_images_of_random_runs(self):
        kinds = set()
        for seed in range(40):
            for events, ahead, kernel in random_run(seed, 30):
                again = from_image(image(ahead))
                self.same(again.run(1), events)
                self.assertTrue(again == kernel)
                self.assertEqual(image(from_image(image(kernel))), image(kernel))
                kinds |= {line.split(" ")[0] for line in image(kernel).split("\n")}
        self.assertTrue({"tick", "cell", "border", "passing", "meant", "items", "fault", "words", "input", "owes", "calls", "waits"} <= kinds, kinds)

    def test_at_the_last_tick(self):
        kernel = stage()
        kernel.run(400)
        self.assertTrue(from_image(image(kernel)) == kernel)


class BadTest(unittest.TestCase, Checks):
    def bad(self, text):
        self.fails(BadImage, text, from_image, text)

    def test_any_values(self):
        for value in ANY_VALUES:
            self.bad(value)
        self.bad("world spaces")
        self.bad("\n".join(f"world {name}" for name in ("spaces", "rights", "clans", "waits", "turns", "devices")))

    def changed(self, *pairs, kernel=None):
        """The image in which lines are exchanged for others, or struck for None."""
        lines = image(kernel or rich()).split("\n")
        for line, other in pairs:
            at = lines.index(line)
            lines[at:at + 1] = [] if other is None else other.split("\n")
        return "\n".join(lines)

    def test_lines_out_twice_exchanged(self):
        """Whatever is left is no image, or another one to the letter."""
        lines = image(rich()).split("\n")
        fine = []
        for at in range(len(lines)):
            texts = ["\n".join(lines[:at] + lines[at + 1:]), "\n".join(lines[:at + 1] + lines[at:]),
                     "\n".join(lines[:at] + lines[at + 1:at + 2] + lines[at:at + 1] + lines[at + 2:]), "\n".join(lines[:at] + [""] + lines[at:])]
            for number, text in enumerate(texts):
                if text == "\n".join(lines):
                    continue
                try:
                    again = from_image(text)
                except BadImage as error:
                    self.assertEqual(error.value, text)
                    continue
                self.assertEqual(image(again), text)
                fine.append((number, lines[at].split(" ")[0]))
        # Only of these kinds a line may be wanting, come twice, or stand behind the next one.
        self.assertEqual({kind for number, kind in fine if number == 0}, {"passing", "meant", "items", "right", "page", "words", "input"})
        self.assertEqual({kind for number, kind in fine if number in (1, 2)}, {"device", "input", "thread"})
        self.assertEqual([kind for number, kind in fine if number == 3], [])

    def test_lines_that_are_wanting(self):
        for kind in ("tick 8", "border 1 5", "fault 1 trap 9 -", "fault 5 page x 100", "world spaces", "world turns", "frames 16",
                     "cell 0 9 1 2 3 4 5 6 7 65535 ready - -", "now 8", "calls 1 2", "row 2 0", "manner slices"):
            self.bad(self.changed((kind, None)))

    def test_parts_otherwise(self):
        for line, other in (
                ("tick 8", "tick 7"), ("tick 8", "tick 08"), ("tick 8", "tick 8 "), ("tick 8", "Tick 8"), ("now 8", "now 7"),
                ("cell 0 9 1 2 3 4 5 6 7 65535 ready - -", "cell 0 9 1 2 3 4 5 6 7 65536 ready - -"), ("cell 0 9 1 2 3 4 5 6 7 65535 ready - -", "cell 0 256 1 2 3 4 5 6 7 8 ready - -"),
                ("cell 0 9 1 2 3 4 5 6 7 65535 ready - -", "cell 0 9 1 2 3 4 5 6 7 8 rests - -"), ("cell 0 9 1 2 3 4 5 6 7 65535 ready - -", "cell 0 9 1 2 3 4 5 6 7 8 ready 16 -"),
                ("cell 0 9 1 2 3 4 5 6 7 65535 ready - -", "cell 0 9 1 2 3 4 5 6 7 8 ready none -"), ("cell 0 9 1 2 3 4 5 6 7 65535 ready - -", "cell 0 9 1 2 3 4 5 6 7 ready - -"),
                *[("cell 0 9 1 2 3 4 5 6 7 65535 ready - -", other) for other in (
                    "cell 0 9 1 2 3 4 5 6 7 65535 ready - 16", "cell 0 9 1 2 3 4 5 6 7 65535 ready -", "cell 0 9 1 2 3 4 5 6 7 65535 ready", "cell 0 9 1 2 3 4 5 6 7 65535",
                    "cell 0 9 1 2 3", "cell 0 9", "cell 0", "cell", "cell 0 9 1 2 3 4 5 6 7 65535 ready - - -")],
                ("border 1 5", "border 1"), ("border 1 5", "border"), ("passing 2 1 - 4", "passing"), ("passing 2 1 - 4", "passing 2"), ("passing 2 1 - 4", "passing 2 1 - 4 4"),
                ("meant 4 0 4", "meant 4 0"), ("meant 4 0 4", "meant"), ("items 3 0", "items"), ("fault 1 trap 9 -", "fault"), ("fault 1 trap 9 -", "fault 1"), ("input 9 1 65535", "input 9 1"),
                ("input 9 1 65535", "input"), ("words 2 5 20 3" + " 0" * 13, "words 2"), ("words 2 5 20 3" + " 0" * 13, "words"),
                ("cell 0 9 1 2 3 4 5 6 7 65535 ready - -", "cell 1 9 1 2 3 4 5 6 7 65535 ready - -"),
                ("border 1 5", "border 1 2"), ("border 1 5", "border 3 3"), ("border 1 5", "border 1 5\nborder 3 3"), ("border 1 5", "border 1 7"), ("border 1 5", "border 5 1"),
                ("passing 2 1 - 4", "passing 2 7 - 4"), ("passing 2 1 - 4", "passing 2 1 1000 4"), ("passing 2 1 - 4", "passing 2 1 - 5"), ("passing 2 1 - 4", "passing 7 1 - 4"),
                ("passing 2 1 - 4", "passing 0 1 - 4"), ("passing 2 1 - 4", "passing 2 1 -"), ("passing 2 1 - 4", "passing 2 1 - 0"),
                ("meant 4 0 4", "meant 4 6 4"), ("meant 4 0 4", "meant 4 7 4"), ("meant 4 0 4", "meant 4 2 4"), ("meant 4 0 4", "meant 4 0 5"), ("meant 4 0 4", "meant 0 0 4"),
                ("items 3 0", "items 3"), ("items 3 0", "items 3 0 0"), ("items 3 0", "items 2 0"), ("items 3 0", "items 7 0"), ("items 3 0", "items 3 1 20 2 0"),
                ("items 3 0", "items 3 1"), ("items 3 0", "items 3 65536"), ("items 3 0", "items 3 0\nitems 5 0"),
                ("fault 1 trap 9 -", "fault 1 trap 256 -"), ("fault 1 trap 9 -", "fault 1 trap - 9"), ("fault 1 trap 9 -", "fault 1 trap 9"), ("fault 1 trap 9 -", "fault 2 trap 9 -"),
                ("fault 1 trap 9 -", "fault 1 page trap 9"), ("fault 1 trap 9 -", "fault 1 row 4099 -"), ("fault 1 trap 9 -", "fault 1 fall 9 -"),
                ("fault 5 page x 100", "fault 5 page r 100"), ("fault 5 page x 100", "fault 5 page x 101"), ("fault 5 page x 100", "fault 5 page 100 x"),
                ("fault 5 page x 100", "fault 5 page x 100\nfault 6 trap 9 -"),
                ("world rights", "world right"), ("world rights", "world Rights"), ("row 2 0", "row 2"), ("row 2 0", "row 2 0 3"), ("row 2 0", "row 2 0 1"),
                ("calls 1 2", "calls 1 0"), ("calls 1 2", "calls 1 2\nwaits 0 1"), ("task 1 0 border", "task 1 0 none"), ("task 3 1 none", "task 3 1 border"),
                ("gates 0 1 2 3 4 1 2", "gates 0 1 2 3 4 1"), ("gates 0 1 2 3 4 1 2", "gates 0 1 2 3 4 2 2"),
                ("threads 4 4 4 4 4 4 4", "threads 4 4 4 4 4 4 5"), ("threads 4 4 4 4 4 4 4", "threads 4 4 4 4 4 4 4 4"), ("tasks 5", "tasks 6"), ("tasks 5", "tasks 4"),
                ("clans 5", "clans 6"), ("device - 0", "device 7 70"), ("device - 0", "device - 0\ndevice - 0\ndevice - 0"),
                ("input 9 1 65535", "input 8 1 65535"), ("input 9 1 65535", "input 9 3 65535"), ("input 9 1 65535", "input 9 1 65536"), ("input 400 0 1", "input 401 0 1"),
                ("input 400 0 1", "input 400 0 1\ninput 400 0 1"), ("input 400 0 1", "input 400 0 1\ninput 399 0 1"), ("input 400 0 1", "input 400 1 1\ninput 400 0 1"),
                ("words 2 5 20 3" + " 0" * 13, "words 2 5 20 3" + " 0" * 12), ("words 2 5 20 3" + " 0" * 13, "words 2 5 20 65536" + " 0" * 13),
                ("words 2 5 20 3" + " 0" * 13, "words 16 5 20 3" + " 0" * 13), ("words 2 5 20 3" + " 0" * 13, "words 2" + " 0" * 16)):
            with self.subTest(line=line, other=other):
                self.bad(self.changed((line, other)))

    def test_parts_otherwise_that_are_another_image(self):
        for line, other in (
                ("cell 0 9 1 2 3 4 5 6 7 65535 ready - -", "cell 0 255 0 0 0 0 0 0 0 0 ready 0 15"), ("passing 2 1 - 4", "passing 2 0 999 4"), ("passing 2 1 - 4", "passing 2 3 - 4"),
                ("passing 2 1 - 4", "passing 2 1 0 4"), *[("fault 1 trap 9 -", f"fault 1 {told}") for told in (
                    "trap 0 -", "trap 255 -", "row 0 -", "row 65535 -", "beyond 256 -", "beyond 65535 -", "nought 0 -", "page r 0", "page w 255", "page x 0")],
                ("items 3 0", "items 3 1 20 2 0 0"), ("row 2 0", "row 0 2"), ("device - 0", "device 1 70 5 255"), ("calls 1 2", "waits 1 2"),
                ("task 3 1 none", "task 3 0 none"), ("frames 16", "frames 15"),
                ("input 9 1 65535", "input 9 0 5\ninput 9 0 5"), ("words 2 5 20 3" + " 0" * 13, "words 2 5 20 3" + " 1" * 13)):
            text = self.changed((line, other))
            self.assertEqual(image(from_image(text)), text)

    def test_who_is_gone(self):
        kernel, _ = told_by(rich(), 0, 3, 2, 11)
        text = image(kernel)
        self.assertTrue(from_image(text) == kernel)
        for line, other in (("gone 4", None), ("task 2 0 border", "task 2 0 border\ntask 4 2 none"), ("next 43", "next 43\nright 0 0 0 g4 s - -"), ("clans 5", "clans 4")):
            self.bad(self.changed((line, other), kernel=kernel))
        # Nothing points at what is gone.
        told = {kind: next(line for line in text.split("\n") if line.startswith(kind)) for kind in ("device -", "page 3 0")}
        for line, other in ((told["device -"], told["device -"].replace("-", "4")), (told["page 3 0"], told["page 3 0"] + "\npage 4 0 rx 0 0")):
            self.bad(self.changed((line, other), kernel=kernel))

    def test_threads_of_tasks_that_never_were(self):
        kernel, _ = told_by(stage(), 0, 3, 2, 10)
        lines = image(kernel).split("\n")
        at = lines.index("world turns") + 7
        self.assertEqual(lines[at], "thread 1 4 20 20")
        for task in (1, 3):
            self.assertEqual(len(from_image("\n".join(lines[:at] + [f"thread {task} 4 20 20"] + lines[at + 1:])).waits), 7)
        for task in (0, 2, 5):
            self.bad("\n".join(lines[:at] + [f"thread {task} 4 20 20"] + lines[at + 1:]))

    def test_who_waits_stands_in_no_row(self):
        kernel = receiving(stage(), 2)
        text = image(kernel)
        for row in ("row 2", "row 2 0"):
            self.bad(self.changed(("row", row), kernel=kernel))
        self.bad(text.replace("\nrow\n", "\nrow\nwaits 2 1\n"))
        self.bad(text.replace("\nrow\n", "\nrow\nwaits 0 1\n"))

    def test_messages_that_wait(self):
        sends = "sends 3 5 305 9 9 9 9 8 ever none 0"
        self.assertIn(sends, image(rich()))
        for badge in ("0", "999", "none"):
            text = self.changed((sends, sends.replace("305", badge)))
            self.assertEqual(image(from_image(text)), text)
        for other in (sends.replace("305", "1000"), sends.replace("305", "65534"), sends.replace("3 5", "3 0"), sends.replace("3 5", "3 4"), sends.replace("ever", "8")):
            self.bad(self.changed((sends, other)))

    def test_faults_that_wait(self):
        sends, line = "sends 5 2 102 3 100 100 0 6 ever reply ever", "fault 5 page x 100"
        self.assertIn(sends, image(rich()))
        for other in ("sends 5 2 102 3 100 100 0 6 99 reply ever", "sends 5 2 102 3 100 100 0 6 ever reply 9", "sends 5 2 102 3 100 100 0 6 ever none 0", "sends 5 2 102 3 100 100 0 6 ever any ever",
                      "sends 5 2 102 3 100 100 1 6 ever reply ever", "sends 5 2 102 1 100 100 0 6 ever reply ever", "sends 5 2 102 9 9 9 9 6 ever reply ever", "sends 5 2 102 3 100 101 0 6 ever reply ever"):
            self.bad(self.changed((sends, other)))
        for other in ("fault 0 trap 9 -\n" + line, "fault 3 trap 9 -\n" + line, line + "\nfault 6 page x 100"):
            self.bad(self.changed((line, other)))
        # A fault whose answer is waited for has no limit.
        self.bad(self.changed(("receives 1 reply 5 ever", "receives 1 reply 5 99")))

    def test_passing_rights_stand_at_borders(self):
        for other in ("passing 6 1 - 4", "passing 1 1 - 4", "passing 4 1 - 4", "passing 2 2 - 4", "passing 2 4 - 4", "passing 2 1 - 2", "passing 2 1 - 1"):
            self.bad(self.changed(("passing 2 1 - 4", other)))

    def test_inputs_that_can_be(self):
        many = "\n".join(f"input {tick} 0 5" for tick in range(11, 23))
        last = "input 400 0 1"
        # At the next tick, 9, as many as were told, in any sequence; later on as many as a system tells.
        for other in (many, many.replace("input 22 0 5", last), "input 10 0 5\ninput 10 1 5\ninput 11 0 5"):
            text = self.changed((last, other))
            self.assertEqual(image(from_image(text)), text)
        text = self.changed(("input 9 0 78", "\n".join(["input 9 0 78"] * 20)))
        self.assertEqual(len(image(from_image(text)).split("input 9")), 24)
        for other in (many + "\n" + last, "input 10 0 5\ninput 10 0 5", "input 10 0 5\ninput 10 0 6", "input 10 1 5\ninput 10 0 5", "input 11 0 5\ninput 10 0 5"):
            self.bad(self.changed((last, other)))

    def test_ticks_that_can_be(self):
        kernel = stage()
        kernel.run(400)
        self.assertEqual(from_image(image(kernel)).tick, 400)
        self.bad(image(kernel).replace("tick 400", "tick 401").replace("now 400", "now 401"))

    def test_the_round_goes_by_the_tick(self):
        kernel = stage(turns="0 2 1 3")
        kernel.run(7)
        self.assertIn("\nat 2\n", image(kernel))
        for at in (0, 1, 3, 4):
            self.bad(image(kernel).replace("\nat 2\n", f"\nat {at}\n"))

    def test_worlds_that_do_not_fit(self):
        one, other = image(rich()), image(Kernel(System("frames 1\ntask 0 -\nthread 0 0 0 4 20 ready\nturns slices")))
        parts, others = one.split("\nworld "), other.split("\nworld ")
        for at in range(1, 6):
            self.bad("\nworld ".join(parts[:at] + [others[at]] + parts[at + 1:]))
        self.bad("\nworld ".join(parts[:2] + parts[1:]))
        self.bad("\nworld ".join(parts[:2] + [parts[3], parts[2]] + parts[4:]))


if __name__ == "__main__":
    unittest.main()
