"""What the tests share: values of every kind, and how errors are looked at."""

from clankernel.answers import Loads
from clankernel.asm import Program
from clankernel.cells import Cell
from clankernel.clans import Clans
from clankernel.desk import Desk
from clankernel.devices import Devices
from clankernel.kernel import Kernel
from clankernel.paged import Paged
from clankernel.rights import Rights
from clankernel.spaces import Spaces
from clankernel.systems import System
from clankernel.turns import Turns
from clankernel.waiting import Waits

SMALLEST = "frames 1\ntask 0 -\nthread 0 0 0 0 1 rests\nturns slices"


def nested(depth):
    value = 1
    for _ in range(depth):
        value = (value,)
    return value


# Values of every kind that the document calls "any value".
ANY_VALUES = (
    0, 1, -1, 16, 256, 65536, 999999999, True, False, None, "", "a", "r0", "set r0 1", "frames 1",
    (), (1,), (1, 2), (True, 1), ("set", 0, 0), [], [1, 2], ["set", 0, 0], ((0, 1),), [(0, 1)],
    {}, {0: 1}, {"set": 1}, nested(30), [[[None]]],
    Cell((0,) * 8, 0), Program("# none"), Spaces("frames 1\ntasks 1"), Rights("tasks 1\nnext 0"),
    Waits("now 0\nthreads 1\ngates"), Devices("none"), Loads("job 1 0 1"),
    Clans("clans 1\ntask 0 - none"), Turns("manner slices\nthread 0 0 1 1\nrow 0"),
    System(SMALLEST), Kernel(System(SMALLEST)), Paged((0,) * 256, 2), Desk(SMALLEST + "\nkernel"),
)


def alike(one, other):
    """Whether two values are the same, True and 1, lists and tuples told apart."""
    if type(one) is not type(other):
        return False
    if isinstance(one, (tuple, list)):
        return len(one) == len(other) and all(alike(a, b) for a, b in zip(one, other))
    return one == other


class Checks:
    """Mixed into a TestCase."""

    def fails(self, error, value, call, *args, **kwargs):
        """The call raises just this error, with just this value."""
        try:
            got = call(*args, **kwargs)
        except Exception as caught:
            self.assertIs(type(caught), error, f"{caught!r} for {args!r}")
            self.assertTrue(alike(caught.value, value), f"{caught.value!r} is not {value!r}")
            return
        self.fail(f"{error.__name__} was not raised for {args!r}, but {got!r} returned")

    def refuses(self, error, call, right=lambda value: False):
        """Each of ANY_VALUES that is not right makes the call raise this error with it."""
        for value in ANY_VALUES:
            if not right(value):
                self.fails(error, value, call, value)

    def same(self, one, other):
        self.assertTrue(alike(one, other), f"{one!r} is not {other!r}")


def is_int(value, low, high):
    return type(value) is int and low <= value <= high
