import unittest

from helpers import ANY_VALUES, Checks, alike, is_int
from runs import random_run
from stage import acting, limits, receiving, stage
from clankernel.errors import BadEvents, BadNumber
from clankernel.ledger import call_pairs, ledger
from clankernel.traces import told_rows, words_to

W = (1, 2, 3, 4)
X = (9, 8, 7, 65535)
ONE_OF_EACH = (
    (1, "rang", 0, 65535), (400, "rang", 3, 0), (7, "idle"), (7, "row", 7, 255), (7, "call", 0, 15), (7, "fault", 1, ("page", "r", 255)),
    (7, "fault", 1, ("trap", 0)), (7, "met", "sent", 0, 7, 11, None, W), (7, "met", "called", 0, 1, 0, 999, W),
    (7, "met", "replied", 1, 0, None, None, X), (7, "met", "device", None, 2, 3, 65534, (8, 0, 5, 1)), (7, "string", 0, 1, 16), (7, "string", 7, 0, 1),
    (7, "pages", ((0, 15), (5, 0))), (7, "rights", (0, 9998)), (7, "passing", 0, 11, None, 5), (7, "passing", 7, 0, 999, 0), (7, "passing", 7, 0, 0, 0),
    (7, "killed", (1, 5)), (7, "rests", 3),
) + tuple((7, "result", 2, number) for number in (0, 1, 2, 3, 4, 5, 6, 7, 8, 9, 10, 11, 13))


class RightTest(unittest.TestCase, Checks):
    def test_words_to(self):
        self.same(words_to(ONE_OF_EACH, 0), (X,))
        self.same(words_to(ONE_OF_EACH, 1), (W,))
        self.same(words_to(ONE_OF_EACH, 2), ((8, 0, 5, 1),))
        self.same(words_to(events=ONE_OF_EACH, thread=7), (W,))
        self.same(words_to(ONE_OF_EACH, 3), ())
        self.same(words_to((), 7), ())

    def test_told_rows(self):
        self.same(told_rows(events=ONE_OF_EACH), (
            ("met", "sent", 0, 7, 11, None, W), ("met", "called", 0, 1, 0, 999, W), ("met", "replied", 1, 0, None, None, X),
            ("met", "device", None, 2, 3, 65534, (8, 0, 5, 1)), ("late", 2, "send"), ("late", 2, "receive"), ("gone", 2, "send"),
            ("gone", 2, "receive"), ("broken", 2, "send"), ("broken", 2, "receive"), ("lost", 2)))
        self.same(told_rows(()), ())
        self.same(told_rows(((1, "idle"), (1, "result", 0, 0), (1, "result", 0, 10))), ())

    def test_of_a_call_at_a_kernel(self):
        kernel = receiving(stage(), 2)
        kernel = acting(kernel, 1, 0, 2, 253, limits(0, None), *W)
        events = kernel.run(1)
        kernel = acting(kernel, 2, 0, 254, 255, 0, *X)
        events = events + kernel.run(1)
        self.same((words_to(events, 2), words_to(events, 1)), ((W,), (X,)))
        self.same(call_pairs(told_rows(events)), ((0, 1),))

    def test_all_events_of_runs(self):
        """Each run's events are such; what was told is a ledger; what a thread got are the words of its meetings."""
        kinds = set()
        for seed in range(30):
            events = tuple(event for told, _, _ in random_run(seed, 40) for event in told)
            kinds |= {event[1] for event in events}
            rows = told_rows(events)
            met = [event[2:] for event in events if event[1] == "met"]
            self.same(ledger(rows), tuple(met))
            call_pairs(rows)
            for thread in range(8):
                self.same(words_to(events, thread), tuple(row[5] for row in met if row[2] == thread))
        self.assertTrue({"met", "row", "call", "fault", "idle", "result", "rests", "rang", "pages", "rights"} <= kinds, kinds)


class WrongTest(unittest.TestCase, Checks):
    def wrong(self, value):
        self.fails(BadEvents, value, told_rows, value)
        self.fails(BadEvents, value, words_to, value, 0)
        self.fails(BadEvents, value, words_to, value, "no thread")

    def test_any_values(self):
        for value in ANY_VALUES:
            if value != ():
                self.wrong(value)
            self.wrong((value,))
            self.wrong(ONE_OF_EACH + (value,))
        self.wrong(list(ONE_OF_EACH))

    def test_one_part_bent(self):
        for event in ONE_OF_EACH:
            self.wrong((list(event),))
            self.wrong((event + (0,),))
            self.wrong((event[:-1],))
            for at in range(len(event)):
                for value in ANY_VALUES + (-1, 401, 65536):
                    bent = event[:at] + (value,) + event[at + 1:]
                    if not alike(bent, event) and not self.could_be(event, at, value):
                        self.wrong((bent,))
        for tick in (0, 401, -1, True, 1.5, "1"):
            self.wrong(((tick, "idle"),))

    def could_be(self, event, at, value):
        """Whether a value may stand in the place of this part."""
        kind = event[1]
        if at == 0:
            return is_int(value, 1, 400)
        thread, word, lot = is_int(value, 0, 7), is_int(value, 0, 65535), any(alike(value, told) for told in ((1,), (1, 2)))
        told = {"rang": (is_int(value, 0, 3), word), "row": (thread, is_int(value, 0, 255)), "call": (thread, is_int(value, 0, 15)),
                "fault": (thread, False), "string": (thread and value not in event[2:4], thread and value not in event[2:4], is_int(value, 1, 16)),
                "pages": (alike(value, ((0, 1),)),), "rights": (lot,), "killed": (lot,), "rests": (thread,), "result": (thread, is_int(value, 0, 13) and value != 12),
                "passing": (thread, is_int(value, 0, 11), value is None or is_int(value, 0, 999), is_int(value, 0, 5))}
        if kind in told:
            return at >= 2 and told[kind][at - 2]
        if kind == "met":
            sender, receiver = event[3:5]
            if event[2] == "device":
                return (at == 4 and thread) or (at == 5 and is_int(value, 0, 11)) or (at == 6 and (value is None or is_int(value, 0, 65534)))
            if at in (3, 4):
                return thread and value != (receiver if at == 3 else sender)
            return event[2] != "replied" and ((at == 5 and is_int(value, 0, 11)) or (at == 6 and (value is None or is_int(value, 0, 65534))))
        return False

    def test_bounds(self):
        for event in (
                (1, "rang", 4, 0), (1, "rang", 0, 65536), (1, "row", 8, 0), (1, "row", 0, 256), (1, "call", 0, 16), (1, "string", 1, 1, 3),
                (1, "string", 0, 1, 0), (1, "string", 0, 1, 17), (1, "pages", ()), (1, "pages", ((1, 1), (1, 1))), (1, "pages", ((1, 2), (1, 1))),
                (1, "pages", ((6, 0),)), (1, "pages", ((0, 16),)), (1, "pages", ([1, 1],)), (1, "rights", ()), (1, "rights", (2, 1)), (1, "rights", (1, 1)),
                (1, "rights", (9999,)), (1, "killed", ()), (1, "killed", (0, 1)), (1, "killed", (6,)), (1, "killed", (2, 1)),
                (1, "result", 0, 12), (1, "result", 0, 14), (1, "result", 0, -1), (1, "passing", 0, 12, None, 0), (1, "passing", 0, 0, 1000, 0),
                (1, "passing", 0, 0, None, 6), (1, "fault", 0, ("page", "q", 0)), (1, "fault", 0, ("row", 4099)), (1, "fault", 0, ("beyond", 255)),
                (1, "met", "sent", 0, 0, 0, None, W), (1, "met", "sent", 0, 1, 12, None, W), (1, "met", "sent", 0, 1, 0, 65535, W),
                (1, "met", "replied", 0, 1, 0, None, W), (1, "met", "device", 0, 1, 0, None, W), (1, "met", "sent", None, 1, 0, None, W),
                (1, "met", "sent", 0, 1, 0, None, (1, 2, 3)), (1, "told", 0), (1,), (), (1, "idle", 0)):
            self.wrong((event,))

    def test_threads(self):
        for value in ANY_VALUES + (8, -1):
            if not is_int(value, 0, 7):
                self.fails(BadNumber, value, words_to, ONE_OF_EACH, value)
                self.fails(BadNumber, value, words_to, (), value)


if __name__ == "__main__":
    unittest.main()
