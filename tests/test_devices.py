import random
import unittest

from helpers import ANY_VALUES, Checks, is_int
from clankernel.devices import Devices, fed
from clankernel.errors import BadBadge, BadDevices, BadGate, BadGates, BadInputs, BadWord, NoDevice, Quiet

FOUR = "device 0 7\ndevice - 0 65535 255\ndevice 11 65534 0 1\ndevice 3 0 9 2"
WRONG_GATES = ((1, 0), (1, 1), (12,), (-1,), (True,), [1], None, 1, ("1",), ((1,),), {}, "1", (None,))
WRONG_DEVICES = (-1, 4, True, False, None, "0", (0,), [0])


class TextTest(unittest.TestCase, Checks):
    def wrong(self, number, text):
        self.fails(BadDevices, number, Devices, text)

    def test_right_texts(self):
        for text, many in (("none", 0), ("device 0 0", 1), ("device - 0 0 1", 1), (FOUR, 4)):
            self.same((Devices(text).text, len(Devices(text))), (text, many))

    def test_equality(self):
        self.assertTrue(Devices(FOUR) == Devices(FOUR))
        self.assertFalse(Devices(FOUR) != Devices(FOUR))
        self.assertTrue(Devices(FOUR) != Devices("none"))
        for value in (FOUR, None, 4):
            self.assertFalse(Devices(FOUR) == value)

    def test_no_string(self):
        for value in ANY_VALUES:
            if type(value) is not str:
                self.wrong(0, value)

    def test_wrong_lines(self):
        for line in ("", "device", "device 0", "device 0 0 ", " device 0 0", "device  0 0", "Device 0 0", "devices 0 0", "device 12 0",
                     "device -1 0", "device 00 0", "device none 0", "device - 1", "device - 65534", "device - -", "device 0 -",
                     "device 0 -1", "device 0 65535", "device 0 01", "device 0 0 5", "device 0 0 65536 1", "device 0 0 -1 1",
                     "device 0 0 05 1", "device 0 0 5 0", "device 0 0 5 256", "device 0 0 5 01", "device 0 0 5 1 1", "device - 1 5 1",
                     "none", "None", "none ", "device 0 0 none 1"):
            if line != "none":
                self.wrong(1, line)
            self.wrong(1, line + "\ndevice 0 0")
            self.wrong(2, "device 0 0\n" + line)
            self.wrong(3, "device 0 0\ndevice - 0 1 1\n" + line + "\nwrong")

    def test_the_fifth_line(self):
        self.wrong(5, FOUR + "\ndevice 0 0")
        self.wrong(5, FOUR + "\nwrong")
        self.wrong(5, FOUR + "\n")
        self.wrong(4, FOUR.replace("device 3", "device 13") + "\ndevice 0 0")


class DeedsTest(unittest.TestCase, Checks):
    def setUp(self):
        self.devices = Devices(FOUR)

    def tearDown(self):
        self.assertEqual(self.devices.text, FOUR)
        self.assertTrue(self.devices == Devices(FOUR))

    def behind(self, later, **lines):
        """The lines that stand otherwise, by their numbers."""
        told = FOUR.split("\n")
        for number, line in lines.items():
            told[int(number[1:])] = line
        self.assertEqual(later.text, "\n".join(told))
        self.assertTrue(Devices(later.text) == later)

    def test_rang(self):
        self.behind(self.devices.rang(0, 500), d0="device 0 7 500 1")
        self.behind(self.devices.rang(0, 0), d0="device 0 7 0 1")
        self.behind(self.devices.rang(1, 65535), d1="device - 0 65535 255")
        self.behind(self.devices.rang(1, 4), d1="device - 0 4 255")
        self.behind(self.devices.rang(3, 4).rang(3, 9), d3="device 3 0 9 4")

    def test_rang_up_to_255_times(self):
        now = Devices("device 0 7")
        for times in range(1, 300):
            now = now.rang(0, times)
            self.assertEqual(now.text, f"device 0 7 {times} {min(times, 255)}")

    def test_errors_of_rang(self):
        for device in WRONG_DEVICES:
            self.fails(NoDevice, device, self.devices.rang, device, -1)
        for value in ANY_VALUES + (-1, 65536):
            if not is_int(value, 0, 65535):
                self.fails(BadWord, value, self.devices.rang, 0, value)
        self.fails(NoDevice, 0, Devices("none").rang, 0, 0)

    def test_bound(self):
        self.behind(self.devices.bound(0, 11, 65534), d0="device 11 65534")
        self.behind(self.devices.bound(1, 0, 0), d1="device 0 0 65535 255")
        self.behind(self.devices.bound(2, None, 0), d2="device - 0 0 1")
        self.behind(self.devices.bound(0, None, 0), d0="device - 0")

    def test_errors_of_bound(self):
        bound = self.devices.bound
        for device in WRONG_DEVICES:
            self.fails(NoDevice, device, bound, device, -1, -1)
        for gate in (-1, 12, True, False, "0", "-", (), [0]):
            self.fails(BadGate, gate, bound, 0, gate, -1)
        for badge in (-1, 65535, True, False, None, "0", ()):
            self.fails(BadBadge, badge, bound, 0, 0, badge)
            self.fails(BadBadge, badge, bound, 0, None, badge)
        self.fails(BadBadge, 1, bound, 0, None, 1)

    def test_first_at(self):
        first_at = self.devices.first_at
        self.same([first_at((11,)), first_at((3,)), first_at((3, 11)), first_at(tuple(range(12)))], [2, 3, 2, 2])
        # Device 0 keeps nothing, and device 1 is bound to none.
        self.same([first_at((0,)), first_at(()), first_at((1, 2))], [None, None, None])
        self.same(self.devices.rang(0, 1).first_at((0, 11)), 0)
        self.same(Devices("none").first_at((0,)), None)
        for gates in WRONG_GATES:
            self.fails(BadGates, gates, first_at, gates)

    def test_taken(self):
        words, badge, later = self.devices.taken(3)
        self.same((words, badge), ((8, 3, 9, 2), 0))
        self.behind(later, d3="device 3 0")
        words, badge, later = self.devices.taken(1)
        self.same((words, badge), ((8, 1, 65535, 255), 0))
        self.behind(later, d1="device - 0")
        words, badge, later = self.devices.taken(2)
        self.same((words, badge), ((8, 2, 0, 1), 65534))
        self.fails(Quiet, 2, later.taken, 2)
        self.same(later.rang(2, 5).taken(2)[0], (8, 2, 5, 1))

    def test_errors_of_taken(self):
        for device in WRONG_DEVICES:
            self.fails(NoDevice, device, self.devices.taken, device)
        self.fails(Quiet, 0, self.devices.taken, 0)

    def test_gone(self):
        self.behind(self.devices.gone(()))
        self.behind(self.devices.gone((1, 2)))
        self.behind(self.devices.gone((0, 11)), d0="device - 0", d2="device - 0 0 1")
        self.behind(self.devices.gone((3,)), d3="device - 0 9 2")
        self.same(Devices("none").gone((0,)).text, "none")
        for gates in WRONG_GATES:
            self.fails(BadGates, gates, self.devices.gone, gates)


class FedTest(unittest.TestCase, Checks):
    def test_all_ring_in_sequence(self):
        devices = Devices("device 0 7\ndevice - 0")
        inputs = ((0, 1, 3), (0, 0, 65535), (0, 1, 4), (7, 0, 0), (400, 1, 5), (400, 1, 6))
        self.assertEqual(fed(devices, inputs).text, "device 0 7 0 2\ndevice - 0 6 4")
        self.assertTrue(fed(devices, ()) == devices)
        self.assertEqual(devices.text, "device 0 7\ndevice - 0")
        self.assertEqual(fed(devices, ((400, 0, 1),) * 12).text, "device 0 7 1 12\ndevice - 0")

    def test_beside_rang(self):
        for seed in range(40):
            chance = random.Random(seed)
            inputs = tuple(sorted(((chance.randrange(5), chance.randrange(4), chance.randrange(65536)) for _ in range(chance.randrange(13))),
                                  key=lambda row: row[0]))
            now = Devices(FOUR)
            for _, device, word in inputs:
                now = now.rang(device, word)
            self.assertTrue(fed(Devices(FOUR), inputs) == now)

    def test_wrong_inputs(self):
        devices = Devices("device 0 7\ndevice - 0")
        wrong = [((0, 0, 0),) * 13, [(0, 0, 0)], ([0, 0, 0],), ((0, 0),), ((0, 0, 0, 0),), ((1, 0, 0), (0, 0, 0)), ((401, 0, 0),),
                 ((-1, 0, 0),), ((True, 0, 0),), ((0, 2, 0),), ((0, -1, 0),), ((0, True, 0),), ((0, 0, 65536),), ((0, 0, -1),),
                 ((0, 0, False),), ((0, 0, None),), (None,), ((0, None, 0),), ((0, 0, 0), ()), (0, 0, 0)]
        for inputs in wrong:
            self.fails(BadInputs, inputs, fed, devices, inputs)
        for value in ANY_VALUES:
            if value != ():
                self.fails(BadInputs, value, fed, devices, value)
            self.fails(BadInputs, (value,), fed, devices, (value,))
        self.fails(BadInputs, ((0, 0, 0),), fed, Devices("none"), ((0, 0, 0),))


if __name__ == "__main__":
    unittest.main()
