"""Deeds that are taken back and done again, blocks, copies, equality of kernels."""

import unittest

from helpers import ANY_VALUES, Checks
from stage import ADD, JUMP, SET, edited, stage
from clankernel.errors import BadNumber, Late, NoTrial, NothingToRedo, NothingToUndo
from clankernel.images import image
from clankernel.kernel import Kernel
from clankernel.systems import System

TEXT = "frames 2\ntask 0 -\nthread 0 0 0 4 3 ready\nwords 0 {}\nwords 1 {}\ndevice - 0\nturns slices\ninput 2 0 5\ninput 9 0 6".format(
    " ".join(["4097", "12801", "24577"] + ["0"] * 13), " ".join(["0"] * 16))


def kernel():
    """Adds r0 to r1 for ever: place 0 sets r0 to 1, 1 adds, 2 jumps to 1."""
    return Kernel(System(TEXT))


class Stands(unittest.TestCase, Checks):
    def stands(self, held):
        """All that a kernel tells of itself."""
        return (image(held), held.tick, held.deeds, held.done, held.spaces.text, held.rights.text, held.clans.text, held.waits.text, held.turns.text,
                held.devices.text, held.cell(0).registers, held.cell(0).place, held.word(1, 0))


class UndoTest(Stands):
    def test_undo_and_redo(self):
        held = kernel()
        seen = [self.stands(held)]
        for deed in (("run", 3), ("tell", 0, 9), ("tell", 0, 8), ("run", 1), ("run", 7)):
            getattr(held, deed[0])(*deed[1:])
            seen.append(self.stands(held))
            self.assertEqual((held.deeds[-1], held.done), (deed, len(seen) - 1))
        for at in (4, 3, 2, 1, 0):
            self.assertIsNone(held.undo())
            self.same(self.stands(held), seen[at])
        self.fails(NothingToUndo, None, held.undo)
        self.same(self.stands(held), seen[0])
        for at in (1, 2, 3, 4, 5):
            self.assertIsNone(held.redo())
            self.same(self.stands(held), seen[at])
        self.fails(NothingToRedo, None, held.redo)
        self.same(self.stands(held), seen[5])

    def test_nothing_at_first(self):
        self.fails(NothingToUndo, None, kernel().undo)
        self.fails(NothingToRedo, None, kernel().redo)

    def test_another_deed_ends_what_can_be_done_again(self):
        for deed in (("run", 1), ("tell", 0, 1)):
            held = kernel()
            held.run(2)
            held.run(5)
            held.undo()
            getattr(held, deed[0])(*deed[1:])
            self.fails(NothingToRedo, None, held.redo)
            self.same(held.deeds, (("run", 2), deed))

    def test_one_that_is_refused_does_not(self):
        held = kernel()
        held.run(2)
        held.run(5)
        held.undo()
        held.undo()
        for call, args in ((held.run, (0,)), (held.run, (401,)), (held.tell, (1, 0)), (held.tell, (0, 65536)), (held.undo, ()), (held.keep, ())):
            self.assertRaises(ValueError, call, *args)
        held.redo()
        held.redo()
        self.same(held.deeds, (("run", 2), ("run", 5)))
        self.fails(Late, 400, held.run, 394)
        held.undo()
        self.fails(Late, 400, held.run, 399)
        held.redo()
        self.assertEqual(held.tick, 7)

    def test_the_same_events_come_again(self):
        held = kernel()
        held.run(1)
        held.tell(0, 77)
        events = held.run(12)
        self.assertIn((2, "rang", 0, 77), events)
        held.undo()
        self.same(held.run(12), events)


class TrialTest(Stands):
    def test_behind_a_block_all_is_as_it_was(self):
        held = kernel()
        held.run(3)
        held.run(4)
        held.undo()
        before = self.stands(held)
        with held.trial() as inner:
            self.assertIs(inner, held)
            held.run(9)
            held.tell(0, 4)
            held.undo()
            self.assertEqual(held.done, 2)
            self.assertNotEqual(self.stands(held), before)
        self.same(self.stands(held), before)
        # Also what can be done again, and taken back.
        held.redo()
        self.same(held.deeds, (("run", 3), ("run", 4)))

    def test_a_block_that_is_kept(self):
        held = kernel()
        held.run(3)
        with held.trial():
            held.run(2)
            self.assertIsNone(held.keep())
            held.run(1)
            held.keep()
        self.same(held.deeds, (("run", 3), ("run", 2), ("run", 1)))
        held.undo()
        with held.trial():
            held.keep()
            held.undo()
        self.same(held.deeds, (("run", 3),))
        held.redo()
        held.redo()
        self.same(held.deeds, (("run", 3), ("run", 2), ("run", 1)))

    def test_an_error_that_leaves_a_block(self):
        for keeps in (False, True):
            held = kernel()
            held.run(3)
            before = self.stands(held)
            error = KeyError("x")
            try:
                with held.trial():
                    held.run(5)
                    if keeps:
                        held.keep()
                    raise error
            except KeyError as caught:
                self.assertIs(caught, error)
            self.same(self.stands(held), before)
            self.fails(NoTrial, None, held.keep)
            with self.assertRaises(BadNumber):
                with held.trial():
                    held.keep()
                    held.run(4)
                    held.run(0)
            self.same(self.stands(held), before)

    def test_an_error_that_stays_within(self):
        held = kernel()
        with held.trial():
            held.keep()
            held.run(1)
            self.assertRaises(BadNumber, held.run, 0)
        self.assertEqual(held.tick, 1)

    def test_nested_blocks(self):
        for outer in (False, True):
            for inner in (False, True):
                held = kernel()
                held.run(1)
                with held.trial():
                    held.run(2)
                    if outer:
                        held.keep()
                    with held.trial():
                        held.run(3)
                        if inner:
                            held.keep()
                    self.assertEqual(held.tick, 6 if inner else 3)
                self.assertEqual(held.tick, 1 if not outer else (6 if inner else 3))
                self.fails(NoTrial, None, held.keep)

    def test_each_block_is_kept_by_itself(self):
        for first in (False, True):
            for second in (False, True):
                held = kernel()
                for keeps in (first, second):
                    with held.trial():
                        held.run(2)
                        if keeps:
                            held.keep()
                self.assertEqual(held.done, first + second)

    def test_keep_belongs_to_the_innermost_block(self):
        held = kernel()
        with held.trial():
            with held.trial():
                held.run(2)
                held.keep()
            self.assertEqual(held.tick, 2)
        self.assertEqual(held.tick, 0)
        with held.trial():
            with held.trial():
                held.run(2)
            held.keep()
            held.run(3)
        self.assertEqual(held.tick, 3)

    def test_an_error_of_an_inner_block_that_an_outer_one_catches(self):
        held = kernel()
        with held.trial():
            held.run(1)
            held.keep()
            try:
                with held.trial():
                    held.run(2)
                    held.keep()
                    raise KeyError
            except KeyError:
                pass
            self.assertEqual(held.tick, 1)
        self.assertEqual(held.tick, 1)

    def test_no_trial(self):
        held = kernel()
        self.fails(NoTrial, None, held.keep)
        held.trial()
        self.fails(NoTrial, None, held.keep)
        with held.trial():
            pass
        self.fails(NoTrial, None, held.keep)

    def test_it_begins_when_it_is_entered(self):
        held = kernel()
        block = held.trial()
        held.run(3)
        with block as inner:
            self.assertIs(inner, held)
            held.run(4)
        self.assertEqual(held.tick, 3)

    def test_undo_goes_on_to_what_was_done_ahead(self):
        held = kernel()
        held.run(1)
        held.run(2)
        before = self.stands(held)
        with held.trial():
            held.undo()
            held.undo()
            self.fails(NothingToUndo, None, held.undo)
            held.redo()
            held.run(7)
        self.same(self.stands(held), before)
        self.fails(NothingToRedo, None, held.redo)
        with held.trial():
            held.undo()
            held.keep()
        self.same(held.deeds, (("run", 1),))
        held.redo()
        self.same(self.stands(held), before)


class TriedTest(Stands):
    def test_tried(self):
        held = kernel()
        held.run(2)
        before = self.stands(held)
        told = held.tried(lambda one: (one, one.run(2), one.tick))
        self.assertIs(told[0], held)
        self.same((told[1][0], told[2]), ((3, "row", 0, 2), 4))
        self.same(self.stands(held), before)
        self.same(held.tried(look=lambda one: one.run(3), keep=False)[0], (3, "row", 0, 2))
        self.same(self.stands(held), before)
        self.assertEqual(held.tried(lambda one: one.run(3) and one.tick, keep=True), 5)
        self.assertEqual((held.tick, held.deeds), (5, (("run", 2), ("run", 3))))

    def test_only_true_keeps(self):
        for value in ANY_VALUES:
            held = kernel()
            held.tried(lambda one: one.run(1), keep=value)
            self.assertEqual(held.tick, 1 if value is True else 0)

    def test_look_may_keep(self):
        held = kernel()
        self.assertIsNone(held.tried(lambda one: one.run(1) and one.keep()))
        self.assertEqual(held.tick, 1)

    def test_errors_pass_on(self):
        held = kernel()
        before = self.stands(held)
        for keep in (False, True):
            self.fails(BadNumber, 0, held.tried, lambda one: one.run(4) and one.run(0), keep=keep)
            self.same(self.stands(held), before)
            self.fails(NoTrial, None, held.keep)

    def test_an_error_behind_keep(self):
        held = kernel()
        held.run(3)
        held.undo()
        before = self.stands(held)
        for keep in (False, True):
            self.fails(BadNumber, 0, held.tried, lambda one: (one.run(4), one.keep(), one.run(0)), keep=keep)
            self.same(self.stands(held), before)
            self.fails(NoTrial, None, held.keep)
        held.redo()
        self.same(held.deeds, (("run", 3),))

    def test_keep_is_passed_by_its_name(self):
        self.assertRaises(TypeError, kernel().tried, lambda one: None, True)

    def test_within_one_another(self):
        held = kernel()
        told = held.tried(lambda one: (one.run(1), one.tried(lambda two: two.run(2), keep=True), one.tick)[2])
        self.assertEqual((told, held.tick), (3, 0))


class CopyTest(Stands):
    def test_alike_and_independent(self):
        held = kernel()
        held.run(3)
        held.run(4)
        held.run(5)
        held.undo()
        other = held.copy()
        self.assertTrue(other == held and other is not held)
        self.assertIs(other.system, held.system)
        self.same(self.stands(other), self.stands(held))
        other.redo()
        self.same((other.tick, held.tick), (12, 7))
        held.undo()
        self.same((other.tick, held.tick, held.deeds), (12, 3, (("run", 3),)))
        other.undo()
        other.undo()
        self.same(self.stands(other), self.stands(held))
        held.tell(0, 5)
        self.assertTrue(other != held)

    def test_a_copy_is_outside_of_all_blocks(self):
        held = kernel()
        held.run(1)
        with held.trial():
            held.run(2)
            other = held.copy()
            self.fails(NoTrial, None, other.keep)
            with other.trial():
                other.run(1)
            self.same((other.tick, other.deeds), (3, (("run", 1), ("run", 2))))
        self.same((held.tick, other.tick), (1, 3))
        other.undo()
        self.same(self.stands(other), self.stands(held))

    def test_of_a_block_that_is_kept(self):
        for keeps in (False, True):
            held = kernel()
            with held.trial():
                held.run(2)
                if keeps:
                    held.keep()
                other = held.copy()
                with other.trial():
                    other.run(1)
            self.same((held.tick, other.tick), (2 if keeps else 0, 2))
            with other.trial():
                other.run(1)
                other.keep()
            self.same((held.tick, other.tick), (2 if keeps else 0, 3))

    def test_of_a_kernel_without_a_system(self):
        held = edited(stage(), {0: (SET, ())}, (0,))
        other = held.copy()
        self.assertIsNone(other.system)
        self.same(other.run(2), ((1, "row", 0, SET), (2, "row", 0, ADD)))
        self.assertEqual(held.tick, 0)


class EqualityTest(Stands):
    def test_by_images(self):
        one, other = kernel(), kernel()
        self.assertTrue(one == other and not one != other)
        one.run(3)
        self.assertTrue(one != other and not one == other)
        other.run(1)
        other.run(2)
        # Of which deeds they came does not matter, nor what can be done again.
        self.assertTrue(one == other)
        other.run(1)
        other.undo()
        self.assertTrue(one == other)
        one.tell(0, 5)
        self.assertTrue(one != other)
        self.assertTrue(edited(stage(), {0: (JUMP, ())}) != stage())

    def test_systems_that_differ_in_inputs_alone(self):
        one = Kernel(System(TEXT))
        other = Kernel(one.system.with_inputs(((9, 0, 6),)))
        self.assertTrue(one != other)
        one.run(2)
        other.run(1)
        other.tell(0, 5)
        other.run(1)
        self.assertTrue(one == other)

    def test_with_other_values(self):
        for value in ANY_VALUES + (image(kernel()),):
            self.assertFalse(kernel() == value)
            self.assertTrue(kernel() != value)


if __name__ == "__main__":
    unittest.main()
