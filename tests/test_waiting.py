import unittest

from helpers import ANY_VALUES, Checks
from clankernel.errors import BadWaits, NoGate, NoThread
from clankernel.waiting import Waits

# Threads 0 to 4; gates 0 and 1 of thread 1, gate 2 of thread 0.
HEAD = "now 5\nthreads 4 0 7 4 4\ngates 1 1 0"
RICH = HEAD + """
sends 0 0 7 1 2 3 65535 5 6 reply 254
receives 1 reply 0 ever
sends 2 1 none 0 0 0 0 3 ever none 0
sends 3 0 0 0 0 0 0 2 1000 any ever
gone 4
owes 3 1"""


def text(*lines):
    return "\n".join((HEAD,) + lines)


class TextTest(unittest.TestCase, Checks):
    def wrong(self, number, told):
        self.fails(BadWaits, number, Waits, told)

    def right(self, *lines):
        self.assertEqual(Waits(text(*lines)).text, text(*lines))

    def test_properties(self):
        waits = Waits(RICH)
        self.same((waits.text, waits.now, waits.priorities, waits.owners), (RICH, 5, (4, 0, 7, 4, 4), (1, 1, 0)))
        self.assertEqual(len(waits), 5)
        self.same(Waits("now 0\nthreads 7\ngates").owners, ())
        full = Waits("now 999999\nthreads 0 1 2 3 4 5 6 7\ngates 7 7 7 7 7 7 7 7 7 7 7 7")
        self.same((full.now, len(full), len(full.owners)), (999999, 8, 12))

    def test_whether_a_value_is_in(self):
        waits = Waits(RICH)
        for value in (0, 1, 2, 3):
            self.assertIs(value in waits, True)
        for value in ANY_VALUES + (4, 5, -1, True, False, "1", (1,), 1000):
            if not (type(value) is int and value in (0, 1)):
                self.assertIs(value in waits, False)

    def test_equality(self):
        self.assertTrue(Waits(RICH) == Waits(RICH))
        self.assertFalse(Waits(RICH) != Waits(RICH))
        self.assertTrue(Waits(RICH) != Waits(HEAD))
        for value in (RICH, None, 5):
            self.assertFalse(Waits(RICH) == value)

    def test_no_string(self):
        for value in ANY_VALUES:
            if type(value) is not str:
                self.wrong(0, value)

    def test_first_lines(self):
        for line in ("", "now", "now -1", "now 01", "now 5 5", "now 5 ", " now 5", "now a", "threads 4", "Now 5"):
            self.wrong(1, line)
            self.wrong(1, line + "\nwrong")
        for line in ("", "threads", "threads ", "threads 8", "threads -1", "threads 1 8", "threads 1  1", "threads 01",
                     "threads 1 ", "threads 1 1 1 1 1 1 1 1 1", "thread 1", "gates", "now 5"):
            self.wrong(2, "now 5\n" + line)
            self.wrong(2, "now 5\n" + line + "\ngates\nwrong")
        for line in ("", "gates ", "gates 2", "gates -1", "gates 0 2", "gates 00", "gates  0", "gates 0 ", "gate 0",
                     "gates none", "gates" + " 0" * 13, "gone 0", "threads 1"):
            self.wrong(3, "now 5\nthreads 1 1\n" + line)
            self.wrong(3, "now 5\nthreads 1 1\n" + line + "\nwrong")

    def test_missing_lines(self):
        self.wrong(2, "now 5")
        self.wrong(3, "now 5\nthreads 1")

    def test_forms_of_gone(self):
        self.right("gone 0")
        self.right("gone 0", "gone 4")
        for line in ("", "gone", "gone 5", "gone -1", "gone 00", "gone 0 0", "gone a", "gone 0 ", " gone 0", "Gone 0",
                     "ready 0", "gone none", "waits 0"):
            self.wrong(4, text(line))
            self.wrong(4, text(line, "wrong"))
        self.wrong(5, text("gone 0", ""))

    def test_forms_of_receives(self):
        for line in ("receives 1 0 0 ever", "receives 1 1 5 6", "receives 1 any 5 ever", "receives 2 any 0 999999",
                     "receives 0 2 3 ever"):
            self.right(line)
        for line in ("receives", "receives 1", "receives 1 0 0", "receives 1 0 0 ever ever", "receives 5 any 0 ever",
                     "receives 1 2 0 ever", "receives 0 0 0 ever", "receives 2 0 0 ever", "receives 1 3 0 ever",
                     "receives 1 none 0 ever", "receives 1 00 0 ever", "receives 1 -1 0 ever", "receives 1 all 0 ever",
                     "receives 1 any 6 ever", "receives 1 any -1 ever", "receives 1 any 00 ever", "receives 1 any ever 6",
                     "receives 1 any 0 5", "receives 1 any 0 0", "receives 1 any 0 none", "receives 1 any 0 06",
                     "receives 1 any 0 ", "receives 1  any 0 ever", "Receives 1 any 0 ever", "receives 01 any 0 ever"):
            self.wrong(4, text(line))

    def test_forms_of_sends(self):
        for line in ("sends 0 0 none 0 0 0 0 0 ever none 0", "sends 0 1 65534 1 2 3 65535 5 6 none 0",
                     "sends 0 0 0 0 0 0 0 0 ever any 0", "sends 0 0 0 0 0 0 0 0 ever reply 254",
                     "sends 0 0 0 0 0 0 0 0 ever 2 ever", "sends 1 2 0 0 0 0 0 0 ever 1 1", "sends 0 2 0 0 0 0 0 0 ever 2 0",
                     "sends 2 0 0 0 0 0 0 0 ever any 3"):
            self.right(line)
        self.assertEqual(Waits("now 100000\nthreads 0\ngates 0\nsends 0 0 0 0 0 0 0 70000 ever none 0").now, 100000)
        for line in ("sends", "wends 0 0 none 0 0 0 0 0 ever none 0", "sends 0", "sends 0 0 0 0 0 0 0 0 ever none", "sends 0 0 0 0 0 0 0 0 ever none 0 0",
                     "sends 5 0 0 0 0 0 0 0 ever none 0", "sends 0 3 0 0 0 0 0 0 ever none 0",
                     "sends 0 -1 0 0 0 0 0 0 ever none 0", "sends 0 any 0 0 0 0 0 0 ever none 0",
                     "sends 0 00 0 0 0 0 0 0 ever none 0", "sends 0 0 65535 0 0 0 0 0 ever none 0",
                     "sends 0 0 ever 0 0 0 0 0 ever none 0", "sends 0 0 -1 0 0 0 0 0 ever none 0",
                     "sends 0 0 - 0 0 0 0 0 ever none 0", "sends 0 0 0 65536 0 0 0 0 ever none 0",
                     "sends 0 0 0 0 0 0 65536 0 ever none 0", "sends 0 0 0 0 01 0 0 0 ever none 0",
                     "sends 0 0 0 0 0 none 0 0 ever none 0", "sends 0 0 0 0 0 0 0 6 ever none 0",
                     "sends 0 0 0 0 0 0 0 ever ever none 0", "sends 0 0 0 0 0 0 0 0 5 none 0",
                     "sends 0 0 0 0 0 0 0 0 none none 0", "sends 0 0 0 0 0 0 0 0 ever none 1",
                     "sends 0 0 0 0 0 0 0 0 ever none ever", "sends 0 0 0 0 0 0 0 0 ever none 00",
                     "sends 0 0 0 0 0 0 0 0 ever 0 1", "sends 0 0 0 0 0 0 0 0 ever 3 1", "sends 0 0 0 0 0 0 0 0 ever all 1",
                     "sends 0 0 0 0 0 0 0 0 ever any 255", "sends 0 0 0 0 0 0 0 0 ever any none",
                     "sends 0 0 0 0 0 0 0 0 ever any -1", "sends 0 0 0 0 0 0 0 0 ever ever 1",
                     "sends 0 0 0 0 0 0 0 0 ever reply 01", "sends 0 0  0 0 0 0 0 ever none 0"):
            self.wrong(4, text(line))

    def test_threads_ascend_each_once(self):
        self.wrong(5, text("gone 3", "gone 2"))
        self.wrong(5, text("gone 3", "gone 3"))
        self.wrong(5, text("gone 3", "receives 3 any 0 ever"))
        self.wrong(5, text("receives 2 any 0 ever", "receives 1 any 0 ever"))

    def test_who_sends_has_not_been_met(self):
        over0, over1 = "sends {} 0 0 0 0 0 0 0 ever none 0", "sends {} 1 0 0 0 0 0 0 ever none 0"
        for state in ("receives 1 0 0 ever", "receives 1 any 0 ever", "gone 1"):
            self.wrong(5, text(over0.format(0), state))
            self.wrong(5, text(state, over0.format(2)))
            self.wrong(6, text(state, "gone 2", over0.format(3)))
        for state in ("receives 1 any 0 ever", "gone 1"):
            self.wrong(5, text(over1.format(0), state))
        self.right(over1.format(0), "receives 1 0 0 ever")
        self.right("receives 1 0 0 ever", over1.format(2))
        self.right(over0.format(0), "sends 1 2 0 0 0 0 0 0 ever none 0")
        self.right("sends 0 2 0 0 0 0 0 0 ever none 0", "gone 1")
        self.right(over0.format(0), "receives 1 reply 0 ever", "owes 2 1")
        self.right("sends 1 0 0 0 0 0 0 0 ever none 0")

    def test_owes(self):
        reply = "receives {} reply 0 ever"
        self.right(reply.format(0), "owes 1 0")
        self.right(reply.format(0), reply.format(2), "owes 1 0", "owes 3 2")
        self.right(reply.format(0), reply.format(2), "owes 0 2", "owes 2 0")
        for line in ("owes", "owes 1", "owes 1 0 0", "owes 5 0", "owes 1 5", "owes 01 0", "owes 1 00", "owes 1 none",
                     "owes 0 0", "owes 1 1", "owes 1 2", "owes 1 3", "owes 1 ", "Owes 1 0", "owes -1 0"):
            self.wrong(7, text(reply.format(0), "receives 3 any 0 ever", "gone 4", line))
        self.wrong(7, text(reply.format(0), "receives 3 any 0 ever", "gone 4", "owes 4 0"))
        self.wrong(6, text(reply.format(0), "owes 1 0", "owes 2 0"))
        self.wrong(7, text(reply.format(0), reply.format(2), "owes 3 0", "owes 1 2"))
        self.wrong(7, text(reply.format(0), reply.format(2), "owes 3 0", "owes 3 2"))
        self.wrong(6, text(reply.format(0), "owes 1 0", "gone 2"))
        self.wrong(6, text(reply.format(0), "owes 1 0", ""))
        self.wrong(4, text("owes 1 0", reply.format(0)))

    def test_a_reply_that_nobody_owes(self):
        reply = "receives {} reply 0 ever"
        self.wrong(4, text(reply.format(0)))
        self.wrong(5, text("gone 0", reply.format(1), reply.format(2)))
        self.wrong(5, text(reply.format(0), reply.format(2), reply.format(3), "owes 1 0", "owes 2 3"))
        # All forms go ahead of this.
        self.wrong(5, text(reply.format(0), "wrong"))
        self.wrong(6, text(reply.format(0), reply.format(2), "owes 1 1"))


class LooksTest(unittest.TestCase, Checks):
    def setUp(self):
        self.waits = Waits(RICH)

    def test_state(self):
        self.same(self.waits.state(0), ("sends", 0, 7, (1, 2, 3, 65535), 5, 6, "reply", 254))
        self.same(self.waits.state(1), ("receives", "reply", 0, None))
        self.same(self.waits.state(2), ("sends", 1, None, (0, 0, 0, 0), 3, None, None, 0))
        self.same(self.waits.state(3), ("sends", 0, 0, (0, 0, 0, 0), 2, 1000, "any", None))
        self.same(self.waits.state(4), ("gone",))
        other = Waits(text("sends 0 2 0 0 0 0 0 0 ever 2 0", "receives 1 1 4 9"))
        self.same(other.state(0), ("sends", 2, 0, (0, 0, 0, 0), 0, None, 2, 0))
        self.same(other.state(1), ("receives", 1, 4, 9))
        self.same(other.state(2), ("ready",))
        self.same(Waits(text("receives 1 any 4 ever")).state(1), ("receives", "any", 4, None))

    def test_owes(self):
        self.same([self.waits.owes(thread) for thread in range(5)], [None, None, None, 1, None])

    def test_no_thread(self):
        for call in (self.waits.state, self.waits.owes):
            for thread in (-1, 5, True, False, None, "0", (0,), [0]):
                self.fails(NoThread, thread, call, thread)

    def test_senders(self):
        self.same(self.waits.senders(0), (3, 0))
        self.same(self.waits.senders(1), (2,))
        self.same(self.waits.senders(2), ())
        for gate in (-1, 3, True, False, None, "0", (0,), "any"):
            self.fails(NoGate, gate, self.waits.senders, gate)

    def test_the_sequence_of_senders(self):
        lines = ["now 9", "threads 3 3 5 3 7 0 5", "gates 6 6"]
        for thread, since in ((0, 4), (1, 2), (2, 9), (3, 2), (4, 9), (5, 0)):
            lines.append(f"sends {thread} 0 none 0 0 0 0 {since} ever none 0")
        self.same(Waits("\n".join(lines)).senders(0), (4, 2, 1, 3, 0, 5))
        self.same(Waits("\n".join(lines)).senders(1), ())


if __name__ == "__main__":
    unittest.main()
