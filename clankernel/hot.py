"""How a block of pages is given into a window of another size."""

from clankernel.checks import is_tuple_of, is_within
from clankernel.errors import BadBlock, BadSpot


def block_pairs(block, window, spot):
    if not is_block(block):
        raise BadBlock(block)
    if not is_block(window):
        raise BadBlock(window)
    if not is_within(spot, 0, 15):
        raise BadSpot(spot)
    if block[1] <= window[1]:
        start, goal = block[0], _part(window, block[1], spot)
    else:
        start, goal = _part(block, window[1], spot), window[0]
    return tuple([(start + at, goal + at) for at in range(min(block[1], window[1]))])


def is_block(value):
    """Whether any value is pages that stand together: (first, size)."""
    if not is_tuple_of(value, 2):
        return False
    first, size = value
    return is_within(size, 1, 16) and size in (1, 2, 4, 8, 16) and is_within(first, 0, 15) and first % size == 0


def _part(block, size, spot):
    """The first page of that part of a block, of this size, at which the spot aims."""
    page = block[0] + spot % block[1]
    return page - page % size
