"""What is promised over the whole program: guarantees, calls that are alike, arguments by position and by name."""

import importlib
import inspect
import random
import unittest

from helpers import ANY_VALUES, Checks, alike
from programs import paged_system, system
from runs import random_run, random_system
from stage import limits, receiving, stage, told_by
from test_interface import CLASSES, FUNCTIONS
from clankernel.asm import Program
from clankernel.cells import Cell, memory_of
from clankernel.clans import Clans
from clankernel.desk import Desk
from clankernel.devices import Devices
from clankernel.images import from_image, image
from clankernel.journals import journal, read_journal
from clankernel.kernel import Kernel
from clankernel.paged import Paged
from clankernel.rights import Rights
from clankernel.spaces import Spaces
from clankernel.systems import System
from clankernel.turns import Turns
from clankernel.waiting import Waits


def systems():
    """Systems of programs: servers with clients, a pager, random ones with inputs."""
    rng = random.Random(21)
    calls = ((1, 5, 6, 7), (2, 5, 0, 0), (1, 9, 9, 9))
    found = [system(name, ((3, calls, True), (None, calls, False)), 2) for name in ("echo", "counter", "line", "names")]
    found.append(paged_system("set r1 20\nset r2 40\nload r0 r1 0\nstore r0 r2 0\ntrap 0\nat 20\nword 77")[0])
    return found + [random_system(rng) for _ in range(6)]


class AgainTest(unittest.TestCase, Checks):
    """The same system with the same inputs comes by the same way, split, written down and read back at any tick."""

    def test_split_and_read_back(self):
        rng = random.Random(22)
        for world in systems():
            whole = Kernel(world)
            events = whole.run(160)
            for _ in range(3):
                kernel, told, written = Kernel(world), (), Kernel(world)
                while kernel.tick < 160:
                    ticks = min(rng.choice([1, 2, 7, 30]), 160 - kernel.tick)
                    told += kernel.run(ticks)
                    written.run(ticks)
                    kernel = from_image(image(kernel))
                    written = read_journal(journal(written))
                    self.assertTrue(kernel == written)
                self.same(told, events)
                self.assertTrue(kernel == whole and written == whole)

    def test_inputs_of_a_system_and_what_is_told(self):
        for world in systems():
            if len(world.devices) == 0:
                continue
            inputs = tuple((tick, tick % len(world.devices), 7 * tick) for tick in range(3, 36, 3))
            kernel, other = Kernel(world.with_inputs(inputs)), Kernel(world.with_inputs(()))
            events = kernel.run(60)
            told = ()
            for tick, device, word in inputs:
                if other.tick < tick - 1:
                    told += other.run(tick - 1 - other.tick)
                other.tell(device, word)
            told += other.run(60 - other.tick)
            self.same(told, events)
            self.assertTrue(kernel == other)

    def test_equal_calls_return_equal_results(self):
        """Whatever is asked between, and whatever other kernels do."""
        for world in systems():
            first = Kernel(world)
            events = first.run(40)
            first.run(60)
            first.undo()
            other = Kernel(world)
            other.tried(lambda kernel: kernel.run(99))
            self.same(other.run(40), events)
            self.assertTrue(other == first)
            self.same(first.copy().run(33), other.run(33))


class WallsTest(unittest.TestCase, Checks):
    def test_words_change_where_letters_let_them(self):
        """In frames that the task of who runs has with w, and in buffers that partners told."""
        changes = 0
        for seed in range(60):
            for events, ahead, later in random_run(3000 + seed, 30):
                changed = [(frame, at) for frame in range(ahead.spaces.frames) for at in range(16) if ahead.word(frame, at) != later.word(frame, at)]
                if not changed:
                    continue
                changes += 1
                tasks = {later.turns.threads[event[2]][0] for event in events if event[1] == "row"}
                tasks |= {later.turns.threads[event[3]][0] for event in events if event[1] == "string"}
                frames = {page[2] for page in ahead.spaces.pages if page[0] in tasks and "w" in page[3]}
                frames |= set(range(ahead.spaces.frames)) if 0 in tasks else set()
                self.assertTrue({frame for frame, _ in changed} <= frames)
                self.assertLessEqual(len(changed), 1 + sum(event[4] for event in events if event[1] == "string"))
        self.assertGreater(changes, 10)

    def test_registers_and_states_change_as_events_tell(self):
        for seed in range(60):
            for events, ahead, later in random_run(4000 + seed, 30):
                told = {event[2] for event in events if event[1] in ("row", "result", "rests", "fault", "passing")}
                told |= {event[4] for event in events if event[1] == "met"} | {event[3] for event in events if event[1] == "met"}
                # A call may set another thread, and its doors.
                sets = any(event[1] == "call" and event[3] == 3 for event in events)
                gone = {thread for thread in range(len(later.waits)) if later.state(thread) == "gone"}
                for thread in range(len(later.waits)):
                    if thread in told or sets:
                        continue
                    self.assertTrue(ahead.cell(thread) == later.cell(thread))
                    self.same(ahead.doors(thread), later.doors(thread))
                    if thread not in gone:
                        self.assertEqual(ahead.state(thread), later.state(thread))

    def test_trees(self):
        """Pages and rights that a run makes never have more than what they came of: their texts stand."""
        for seed in range(40):
            for _, _, later in random_run(5000 + seed, 25):
                for made in (later.spaces, later.rights, later.clans, later.waits, later.turns, later.devices):
                    self.assertTrue(type(made)(made.text) == made)
                for number, _, _, thing, letters, badge, parent in later.rights.rows:
                    above = [row for row in later.rights.rows if row[0] == parent]
                    self.assertTrue(parent is None or (above[0][3] == thing and set(letters) <= set(above[0][4]) and above[0][5] in (None, badge)))

    def test_messages_are_met_once(self):
        """What is sent is met, or waits, or its sender is told: by the events of each run."""
        for seed in range(60):
            waiting, met = {}, 0
            for events, ahead, later in random_run(6000 + seed, 40):
                for event in events:
                    if event[1] == "met" and event[2] in ("sent", "called"):
                        met += 1
                        if event[3] in waiting:
                            # Just the words, gate and badge that it sends, once.
                            self.same(waiting.pop(event[3]), (event[5], event[6], event[7]))
                    if event[1] in ("result", "rests") and event[2] in waiting:
                        waiting.pop(event[2])
                for thread in range(len(later.waits)):
                    state = later.waits.state(thread)
                    if state[0] == "sends":
                        self.same(waiting.setdefault(thread, state[1:4]), state[1:4])
                    else:
                        # Set by a call, or gone, a fault is over without a word.
                        if thread in waiting:
                            self.assertTrue(ahead.state(thread) == "faults" or later.state(thread) == "gone")
                            waiting.pop(thread)


class CallsTest(unittest.TestCase, Checks):
    """Each function and method takes its arguments by position and by name, and equal calls return equal results."""

    def arguments(self):
        """Of each function right arguments, in the sequence of its parameters."""
        spaces, rights = Spaces("frames 2\ntasks 2\npage 1 3 rw 0 1"), Rights("tasks 2\ngate 1\nnext 1\nright 0 0 3 g0 sg - -")
        clans = Clans("clans 2\ntask 0 - border\ntask 1 0 none")
        waits = Waits("now 2\nthreads 4 4\ngates 1\nreceives 1 0 1 ever")
        turns = Turns("manner slices\nthread 0 4 5 5\nthread 1 4 5 5\nrow 0")
        loads = importlib.import_module("clankernel.answers").Loads("job 5 7 2\njob 7 4 2")
        memory, cell = memory_of(Program("set r0 3\ntrap 0").words), Cell((0,) * 8, 0)
        events = Kernel(system("echo", ((3, ((1, 2, 3, 4),), True),))).run(40)
        kernel, row = stage(), ("store", 1, 3, 32)
        course = (("write", 0, 3, 7), ("read", 0, 3))
        met = (("met", "sent", 0, 1, 0, None, (1, 2, 3, 4)),)
        return {
            "row_of": (4099,), "word_of": (row,), "row_text": (row,), "is_placed": (row,), "text_of": (((0, 4099),),), "moved": (((0, 4099),), 3),
            "wants": (cell, 4099), "touches": (cell, 4099), "does": (cell, 4099, None), "memory_of": (((0, 4099),),), "step": (cell, memory), "run_rows": (cell, memory, 5),
            "block_pairs": ((0, 2), (4, 4), 6), "page_at": (spaces, 1, 3), "page_chain": (spaces, 1, 3), "page_beneath": (spaces, 0, 1), "page_holders": (spaces, 1),
            "told_apart": (spaces, spaces), "shows_told_apart": (spaces, spaces, ("same",)), "tables_of": (spaces, 1), "walk": ((0, 0, 0, 0), 3), "shows_tables": (spaces, 1, (0, 0, 0, 0)),
            "plain": (spaces, course), "writers": (spaces, course), "kept": (spaces, course, ()), "stale": (("own",),), "shows_stale": ((), None),
            "right_at": (rights, 0, 3), "right_chain": (rights, 0), "right_beneath": (rights, 0), "right_holders": (rights, "g0", "s"), "bared": (rights, 0), "after_deeds": (rights, (("dropped", 0, 3),)),
            "message": (waits, 0, 0, 7, (1, 2, 3, 4), 5, "reply", None), "rung": (waits, 0, None, (1, 2, 3, 4)), "ticked": (waits,), "broken": (waits, 1), "gone": (waits, (1,)), "followed": (waits, (("ticked",),)),
            "items_in": ((7, 3, 0, 0, 0),), "item_words": ((("place", 3),),), "copied": (memory, memory, 0, 9, 2), "fitting": ((), ()), "result_number": ("late", "send"), "result_word": (3,),
            "ledger": (met,), "call_pairs": (met,), "first_refused": (("r",) + ("",) * 15, ((3, "x"),)), "fault_words": (("trap", 9), 5), "fault_of": ((7, 9, 20, 0),), "door_of": (("trap", 9),),
            "behind_answer": (("trap", 9), (2, 100, 0, 0)), "fed": (Devices("device 0 7"), ((0, 0, 5),)), "who_runs": (turns, 4), "lent": (turns, 0), "shows_lent": (turns, 0, (4, (0,))), "payer": (turns, 0),
            "runs_again": (turns, 0), "shares": (turns, 4), "play": (loads, ((0, 0),), 5), "answer": (loads, 1), "shows_answer": (loads, 1, 5), "priorities": (loads, (5, 7)), "shows_priorities": (loads, (5, 7), None),
            "clan": (clans, 1), "beneath": (clans, 0), "depth": (clans, 1), "straight": (clans, 0, 1), "next_stop": (clans, 0, 1), "way": (clans, 1, 0), "way_sort": (clans, 1, 0), "passes": (clans, 1, 0), "met_by": (clans, 1),
            "goes": (kernel, 1), "pointing": (kernel, (1,)), "words_to": (events, 0), "told_rows": (events,), "image": (kernel,), "from_image": (image(kernel),), "carried": (memory, 2, "turn", 5),
            "server": ("echo",), "served": ("echo", ((None, (1, 2, 3, 4)),)), "stuck": (waits, ()), "freed": (waits, (("send", 0, 0),), 1), "shows_freed": (waits, (("send", 0, 0),), 1, ()), "least_stuck": (waits, ()),
            "shows_ring": (waits, (), (1,)), "cut_stuck": (waits, (), (0,)), "levels": (waits, ((0,), ())), "shows_levels": (waits, ((0,), ()), ("levels", (1, 0))), "longest": (waits, ((0,), ()), 0),
            "ever": (rights, clans, spaces, (0, 1), 1, "g0", "s"), "shows_ever": (rights, clans, spaces, (0, 1), 1, "g0", "s", None), "reach": (rights, clans, spaces, (0, 1)), "helpers": (rights, clans, spaces, (0, 1), 1, "g0", "s"),
            "ways_between": (rights, clans, spaces, True, 0, 1), "heard": (rights, clans, spaces, True, 0, 1), "shows_heard": (rights, clans, spaces, True, 0, 1, ("heard", ())),
            "journal": (Kernel(System("frames 1\ntask 0 -\nthread 0 0 0 0 1 rests\nturns slices")),), "read_journal": ("frames 1\ntask 0 -\nthread 0 0 0 0 1 rests\nturns slices\nkernel",),
        }

    def test_functions(self):
        right = self.arguments()
        for module, functions in FUNCTIONS.items():
            for name, parameters in functions.items():
                call = getattr(importlib.import_module(f"clankernel.{module}"), name)
                args = right[name]
                self.assertEqual(len(args), len(parameters.split()), name)
                by_name = dict(reversed(list(zip(parameters.split(), args))))
                one, other, again = call(*args), call(**by_name), call(*args)
                self.assertTrue(alike(one, other) and alike(one, again), name)
                self.assertNotIsInstance(one, (list, dict, set))
                if name.startswith("shows_"):
                    self.assertIs(type(one), bool)
        self.assertEqual(set(right), {name for functions in FUNCTIONS.values() for name in functions})

    def test_methods(self):
        for module, classes in CLASSES.items():
            for cls, methods in classes.items():
                for method, parameters in methods.items():
                    found = inspect.signature(vars(getattr(importlib.import_module(f"clankernel.{module}"), cls))[method])
                    kinds = [parameter.kind for name, parameter in found.parameters.items() if name not in ("self", "keep")]
                    self.assertEqual(set(kinds) <= {inspect.Parameter.POSITIONAL_OR_KEYWORD}, True)
                    defaults = {name: parameter.default for name, parameter in found.parameters.items() if parameter.default is not inspect.Parameter.empty}
                    self.assertEqual(defaults, {"keep": False} if method == "tried" else {})
        tried = inspect.signature(Kernel.tried).parameters["keep"]
        self.assertEqual(tried.kind, inspect.Parameter.KEYWORD_ONLY)

    def test_nothing_that_is_handed_in_is_changed(self):
        """Lists and dicts, which most take for wrong, stay as they are."""
        kernel, memory = stage(), list(range(256))
        told = [1, [2, {"a": [3]}]]
        right = self.arguments()
        for module, functions in FUNCTIONS.items():
            for name in functions:
                call = getattr(importlib.import_module(f"clankernel.{module}"), name)
                args = right[name]
                for at in range(len(args)):
                    if isinstance(args[at], (int, str, tuple)) or args[at] is None:
                        try:
                            call(*args[:at], told, *args[at + 1:])
                        except ValueError:
                            pass
        self.assertEqual((told, memory), ([1, [2, {"a": [3]}]], list(range(256))))
        self.assertTrue(kernel == stage())

    def test_properties_stay_as_they_were(self):
        """A world that a kernel showed stays the same, whatever the kernel does behind."""
        kernel = receiving(stage(), 2)
        shown = (kernel.spaces, kernel.rights, kernel.clans, kernel.waits, kernel.turns, kernel.devices, kernel.deeds, kernel.cell(2))
        texts = [world.text for world in shown[:6]]
        told_by(kernel, 1, 0, 2, 253, limits(0, None))
        kernel.tell(0, 5)
        kernel.run(5)
        self.assertEqual([world.text for world in shown[:6]], texts)
        self.same(shown[6], (("run", 1),))
        self.assertEqual(shown[7].registers[0], 255)

    def test_each_of_any_values_raises_the_errors_that_are_named(self):
        """What is no such value raises an error of the package, and nothing else."""
        right = self.arguments()
        objects = (Cell, Program, Spaces, Rights, Waits, Devices, Clans, Turns, System, Kernel, Paged, Desk)
        for module, functions in FUNCTIONS.items():
            for name in functions:
                call = getattr(importlib.import_module(f"clankernel.{module}"), name)
                args = right[name]
                for at in range(len(args)):
                    if isinstance(args[at], objects) and name != "told_apart":
                        continue
                    if name in ("play", "answer", "shows_answer", "priorities", "shows_priorities") and at == 0:
                        continue
                    for value in ANY_VALUES:
                        try:
                            call(*args[:at], value, *args[at + 1:])
                        except ValueError as error:
                            self.assertEqual(type(error).__mro__[1].__name__, "CoreError", (name, at, value))
                        except AttributeError:
                            self.assertEqual((name, at), ("told_apart", 0))


if __name__ == "__main__":
    unittest.main()
