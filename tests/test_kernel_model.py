"""The kernel beside one of another shape: random ticks, with calls of all kinds."""

import unittest

from helpers import Checks
from plain import Plain
from runs import random_run
from clankernel.images import image


class ModelTest(unittest.TestCase, Checks):
    def test_random_ticks(self):
        for seed in range(120):
            for events, ahead, later in random_run(7000 + seed, 40):
                plain = Plain(ahead)
                self.assertEqual(plain.image(), image(ahead))
                self.same(plain.go(), events)
                self.assertEqual(plain.image(), image(later))


if __name__ == "__main__":
    unittest.main()
