"""The kernel: a system that runs, tick for tick, and can be taken back."""

from clankernel.checks import is_address, is_within, is_word
from clankernel.errors import (
    BadNumber, BadWord, Late, NoDevice, NoFrame, NoThread, NoTrial, NothingToRedo, NothingToUndo)
from clankernel.stands import first_stand, image_text, state_of
from clankernel.systems import System
from clankernel.ticking import run_ticks

LAST_TICK = 400
SMALLEST = "frames 1\ntask 0 -\nthread 0 0 0 0 1 rests\nturns slices"


class Kernel:
    def __init__(self, system):
        self.system = system
        # Deeds that stand, with the stand ahead of each; those taken back, with that behind each.
        self.past = ()
        self.future = ()
        self.blocks = ()
        self.show(first_stand(system))

    def __eq__(self, other):
        return isinstance(other, Kernel) and image_text(self.stand) == image_text(other.stand)

    def cell(self, thread):
        self.check_thread(thread)
        return self.stand.cells[thread]

    def state(self, thread):
        self.check_thread(thread)
        return state_of(self.stand, thread)

    def doors(self, thread):
        self.check_thread(thread)
        return self.stand.door_pairs[thread]

    def passing(self, thread):
        self.check_thread(thread)
        return self.stand.passings.get(thread)

    def word(self, frame, at):
        if not is_within(frame, 0, self.spaces.frames - 1):
            raise NoFrame(frame)
        if not is_within(at, 0, 15):
            raise BadNumber(at)
        return self.stand.frame_words[frame][at]

    def read(self, task, address):
        self.clans.check_task(task)
        if not is_address(address):
            raise BadNumber(address)
        return self.stand.word_at(task, address, "r")

    def run(self, ticks):
        if not is_within(ticks, 1, LAST_TICK):
            raise BadNumber(ticks)
        if self.tick + ticks > LAST_TICK:
            raise Late(LAST_TICK)
        later = self.stand.working_copy()
        events = run_ticks(later, ticks)
        self.take_deed(("run", ticks), later)
        return events

    def tell(self, device, word):
        if not self.devices.has_device(device):
            raise NoDevice(device)
        if not is_word(word):
            raise BadWord(word)
        if self.tick == LAST_TICK:
            raise Late(LAST_TICK)
        later = self.stand.working_copy()
        ahead = [told for told in later.inputs if told[0] == self.tick + 1]
        later.inputs.insert(len(ahead), (self.tick + 1, device, word))
        self.take_deed(("tell", device, word), later)

    def undo(self):
        if not self.past:
            raise NothingToUndo(None)
        deed, stand = self.past[-1]
        self.past = self.past[:-1]
        self.future = (*self.future, (deed, self.stand))
        self.show(stand)

    def redo(self):
        if not self.future:
            raise NothingToRedo(None)
        deed, stand = self.future[-1]
        self.future = self.future[:-1]
        self.past = (*self.past, (deed, self.stand))
        self.show(stand)

    def trial(self):
        return Trial(self)

    def keep(self):
        if not self.blocks:
            raise NoTrial(None)
        block = self.blocks[-1]
        block.kept = True

    def tried(self, look, *, keep=False):
        with self.trial():
            told = look(self)
            if keep is True:
                self.keep()
        return told

    def copy(self):
        other = standing_kernel(self.stand, self.past)
        other.system = self.system
        other.future = self.future
        return other

    def check_thread(self, value):
        if not self.waits.has_thread(value):
            raise NoThread(value)

    def take_deed(self, deed, later):
        """A deed was done: it stands, and nothing can be done again."""
        self.past = (*self.past, (deed, self.stand))
        self.future = ()
        self.show(later)

    def show(self, stand):
        """The kernel stands so, behind the deeds of its past."""
        self.stand = stand
        self.tick = stand.waits.now
        self.spaces = stand.spaces
        self.rights = stand.rights
        self.clans = stand.clans
        self.waits = stand.waits
        self.turns = stand.turns
        self.devices = stand.devices
        self.deeds = tuple([deed for deed, _ in self.past])
        self.done = len(self.past)


def standing_kernel(stand, past):
    """A Kernel of no system that stands so behind these deeds."""
    kernel = Kernel(System(SMALLEST))
    kernel.system = None
    kernel.past = past
    kernel.show(stand)
    return kernel


class Trial:
    """A block: behind it the kernel is as it was when it was entered, unless it was kept."""

    def __init__(self, kernel):
        self.kernel = kernel
        # None until keep is called: where a block ends, attributes are asked for None alone.
        self.kept = None

    def __enter__(self):
        kernel = self.kernel
        self.outer = kernel.blocks
        self.stand = kernel.stand
        self.past = kernel.past
        self.future = kernel.future
        self.tick = kernel.tick
        self.spaces = kernel.spaces
        self.rights = kernel.rights
        self.clans = kernel.clans
        self.waits = kernel.waits
        self.turns = kernel.turns
        self.devices = kernel.devices
        self.deeds = kernel.deeds
        self.done = kernel.done
        kernel.blocks = (*kernel.blocks, self)
        return kernel

    def __exit__(self, kind, value, trace):
        kernel = self.kernel
        if kind is not None or self.kept is None:
            kernel.stand = self.stand
            kernel.past = self.past
            kernel.future = self.future
            kernel.tick = self.tick
            kernel.spaces = self.spaces
            kernel.rights = self.rights
            kernel.clans = self.clans
            kernel.waits = self.waits
            kernel.turns = self.turns
            kernel.devices = self.devices
            kernel.deeds = self.deeds
            kernel.done = self.done
        kernel.blocks = self.outer
