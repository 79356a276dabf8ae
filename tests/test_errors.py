import unittest

import helpers
from clankernel import errors

NAMES = """
BadWord BadRow BadProgram BadWords BadMove BadCell BadNumber BadValue BadMemory BadSpaces NoTask BadBlock BadSpot
BadLetters BadOwn BadTasks NoPage NoFrame OtherPages BadTables BadAddress BadCourse BadEmpties BadRights NoPlace
NoThing Held Full Empty NoGate Badged BadBadge NotLet BadLot Spent NoRight BadDeeds Refused BadWaits NoThread NotReady
BadTo BadLimit BadSource NoReply NotWaited NotWaiting BadItems BadRows BadMany BadResult BadTold BadAccesses BadFault
BadPlace BadDevices NoDevice BadGate BadGates Quiet BadInputs BadTurns Same IsReady NotResting Taken BadTruth NoCaller
BadPriority BadThreads BadTicks BadLoads BadAsks NoJob BadWithin BadClans BadBorder Root BadFrames BadPage BadFrame
Here Fresh BadWay BadServer BadCalls BadRoads Stuck Gone BadHabits Ring BadSystem Late BadEvents BadImage
NothingToUndo NothingToRedo NoTrial NoSystem BadJournal BadLine OtherTasks
""".split()


class ErrorsTest(unittest.TestCase):
    def test_all_stand_directly_below_core_error(self):
        self.assertEqual(len(NAMES), 102)
        for name in NAMES:
            self.assertEqual(getattr(errors, name).__bases__, (errors.CoreError,), name)

    def test_core_error_stands_below_value_error(self):
        self.assertEqual(errors.CoreError.__bases__, (ValueError,))

    def test_each_keeps_any_value(self):
        for name in NAMES + ["CoreError"]:
            for value in helpers.ANY_VALUES:
                self.assertIs(getattr(errors, name)(value).value, value)

    def test_none_without_a_value(self):
        for name in NAMES + ["CoreError"]:
            with self.assertRaises(TypeError):
                getattr(errors, name)()
            with self.assertRaises(TypeError):
                getattr(errors, name)(1, 2)


if __name__ == "__main__":
    unittest.main()
