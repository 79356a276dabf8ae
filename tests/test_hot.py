import unittest

from helpers import ANY_VALUES, Checks
from clankernel.errors import BadBlock, BadSpot
from clankernel.hot import block_pairs

BLOCKS = tuple((first, size) for size in (1, 2, 4, 8, 16) for first in range(0, 16, size))
WRONG_BLOCKS = ((1, 2), (2, 4), (8, 16), (16, 1), (-1, 1), (-2, 2), (0, 3), (0, 0), (0, 32), (0, -1), (0,), (0, 1, 1),
                [0, 1], (True, 1), (0, True), (False, 1), ("0", 1), (0, None), (None, 1), None, 0, "01", ((0, 1),))


def expected(block, window, spot):
    """By bits: the spot tells the bits that the greater one of both leaves open."""
    size = min(block[1], window[1])
    greater = max(block[1], window[1])
    behind = (spot % greater) // size * size
    if block[1] < window[1]:
        return tuple((block[0] + at, window[0] + behind + at) for at in range(size))
    if block[1] > window[1]:
        return tuple((block[0] + behind + at, window[0] + at) for at in range(size))
    return tuple((block[0] + at, window[0] + at) for at in range(size))


class HotTest(unittest.TestCase, Checks):
    def test_equal_sizes(self):
        self.same(block_pairs((4, 4), (8, 4), 3), ((4, 8), (5, 9), (6, 10), (7, 11)))
        self.same(block_pairs((0, 16), (0, 16), 15), tuple((at, at) for at in range(16)))

    def test_smaller_block(self):
        self.same(block_pairs((0, 2), (4, 4), 6), ((0, 6), (1, 7)))
        self.same(block_pairs((0, 2), (4, 4), 7), ((0, 6), (1, 7)))
        self.same(block_pairs((0, 2), (4, 4), 5), ((0, 4), (1, 5)))
        self.same(block_pairs((4, 1), (0, 16), 9), ((4, 9),))
        self.same(block_pairs((4, 1), (8, 2), 15), ((4, 9),))

    def test_smaller_window(self):
        self.same(block_pairs((0, 4), (8, 2), 3), ((2, 8), (3, 9)))
        self.same(block_pairs((0, 4), (8, 2), 12), ((0, 8), (1, 9)))
        self.same(block_pairs((0, 16), (5, 1), 11), ((11, 5),))

    def test_all(self):
        for block in BLOCKS:
            for window in BLOCKS:
                for spot in range(16):
                    self.same(block_pairs(block, window, spot), expected(block, window, spot))

    def test_errors_in_sequence(self):
        wrong = WRONG_BLOCKS + tuple(value for value in ANY_VALUES if value not in BLOCKS)
        for value in wrong:
            self.fails(BadBlock, value, block_pairs, value, None, None)
            self.fails(BadBlock, value, block_pairs, (0, 1), value, None)
        for spot in (-1, 16, True, False, None, "0", (0,), [0]):
            self.fails(BadSpot, spot, block_pairs, (0, 1), (0, 1), spot)


if __name__ == "__main__":
    unittest.main()
