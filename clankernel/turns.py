"""Turns: who runs in the next tick, and the deeds that change it."""

from clankernel.checks import is_lot, is_within, line_of, number_in, number_told
from clankernel.errors import (
    BadPriority, BadThreads, BadTicks, BadTruth, BadTurns, IsReady, NoCaller, NoThread, NotReady, NotResting,
    Same, Taken)
from clankernel.hanging import lent_priority, payer_chain

MOST_THREADS = 8
MOST_TICKS = 400


class Turns:
    """Shifts are the pairs (task, ticks) of the round, () by slices alone."""

    def __init__(self, text):
        if type(text) is not str:
            raise BadTurns(0)
        lines = text.split("\n")
        sheet = Sheet()
        for number, line in enumerate(lines, start=1):
            if not sheet.take(line):
                raise BadTurns(number)
        if sheet.row is None:
            raise BadTurns(len(lines) + 1)
        self.text = text
        self.shifts = sheet.shifts
        self.at = sheet.at
        self.threads = tuple(sheet.threads)
        self.row = sheet.row
        # Of each thread that waits for, or calls, another one: (word, other).
        self.links = sheet.links
        self.waits = _linked(sheet.links, "waits")
        self.calls = _linked(sheet.links, "calls")
        self.next = Play(self).chosen()

    def __eq__(self, other):
        return isinstance(other, Turns) and self.text == other.text

    def passed(self):
        play = Play(self)
        play.tick_on()
        return self.alike(play.row, self.links, [(*thread[:3], left) for thread, left in zip(self.threads, play.left)],
                          play.at)

    def ready(self, thread):
        self.check_thread(thread)
        if thread in self.row:
            raise IsReady(thread)
        return self.with_row([*self.row, thread], self.links_without([thread]))

    def rest(self, thread):
        self.check_ready(thread)
        return self.with_row(self.row_without(thread), self.links)

    def wait(self, thread, other):
        self.check_pair(thread, other)
        return self.with_row(self.row_without(thread), self.links_with(thread, ("waits", other)))

    def call(self, thread, other):
        self.check_pair(thread, other)
        if other in self.row or other in self.links:
            raise NotResting(other)
        if self.caller_of(other) is not None:
            raise Taken(other)
        return self.with_row(self.row_in_place(thread, other), self.links_with(thread, ("calls", other)))

    def reply(self, thread, stays):
        self.check_thread(thread)
        if type(stays) is not bool:
            raise BadTruth(stays)
        self.check_ready(thread)
        caller = self.caller_of(thread)
        if caller is None:
            raise NoCaller(thread)
        row = self.row_in_place(thread, caller)
        return self.with_row([*row, thread] if stays else row, self.links_without([caller]))

    def give_way(self, thread):
        self.check_ready(thread)
        payer = payer_chain(self.callers(), thread)[-1]
        threads = [(*told[:3], told[2]) if number == payer else told for number, told in enumerate(self.threads)]
        return self.alike([*self.row_without(thread), thread], self.links, threads, self.at)

    def with_priority(self, thread, priority):
        self.check_thread(thread)
        if not is_within(priority, 0, 7):
            raise BadPriority(priority)
        threads = [(told[0], priority, *told[2:]) if number == thread else told
                   for number, told in enumerate(self.threads)]
        return self.alike(self.row, self.links, threads, self.at)

    def gone(self, threads):
        if not is_lot(threads, 0, len(self.threads) - 1):
            raise BadThreads(threads)
        left = [thread for thread in self.links if self.links[thread][1] in threads]
        row = [thread for thread in self.row if thread not in threads]
        return self.with_row(row, self.links_without([*left, *threads]))

    def check_thread(self, value):
        if not is_within(value, 0, len(self.threads) - 1):
            raise NoThread(value)

    def check_ready(self, thread):
        self.check_thread(thread)
        if thread not in self.row:
            raise NotReady(thread)

    def check_pair(self, thread, other):
        """A ready thread, and another one."""
        self.check_thread(thread)
        self.check_thread(other)
        if thread == other:
            raise Same(thread)
        self.check_ready(thread)

    def callers(self):
        """Of each thread that is called by one: this one."""
        return {other: thread for thread, other in self.calls}

    def caller_of(self, thread):
        return self.callers().get(thread)

    def row_without(self, thread):
        return [told for told in self.row if told != thread]

    def row_in_place(self, thread, other):
        """The row in which the other one stands where this thread stood."""
        return [other if told == thread else told for told in self.row]

    def links_without(self, threads):
        return {thread: self.links[thread] for thread in self.links if thread not in threads}

    def links_with(self, thread, link):
        links = self.links_without([thread])
        links[thread] = link
        return links

    def with_row(self, row, links):
        return self.alike(row, links, self.threads, self.at)

    def alike(self, row, links, threads, at):
        """The Turns of the same manner that stand so."""
        lines = self.text.split("\n")[:1]
        if self.shifts:
            lines.append(f"at {at}")
        lines.extend([line_of("thread", told) for told in threads])
        lines.append(line_of("row", row))
        lines.extend([f"{links[thread][0]} {thread} {links[thread][1]}" for thread in sorted(links)])
        return Turns("\n".join(lines))


def who_runs(turns, ticks):
    if not is_within(ticks, 0, MOST_TICKS):
        raise BadTicks(ticks)
    play = Play(turns)
    return tuple([play.tick_on() for _ in range(ticks)])


class Play:
    """Turns whose ticks go by, no deed coming between: ranks and payers stay as they are."""

    def __init__(self, turns):
        self.row = list(turns.row)
        self.left = [thread[3] for thread in turns.threads]
        self.slices = [thread[2] for thread in turns.threads]
        self.tasks = [thread[0] for thread in turns.threads]
        self.ranks = ranks_of(turns)
        callers = turns.callers()
        self.payers = [payer_chain(callers, thread)[-1] for thread in range(len(turns.threads))]
        # The task of each tick of the round, none by slices alone.
        self.round_tasks = tasks_of_round(turns.shifts)
        self.at = turns.at

    def chosen(self):
        """Who runs in the next tick, None for nobody."""
        best = None
        for thread in self.row:
            if self.round_tasks and self.tasks[thread] != self.round_tasks[self.at]:
                continue
            if best is None or self.ranks[thread] > self.ranks[best]:
                best = thread
        return best

    def tick_on(self):
        """One tick goes by: who ran in it, None for nobody."""
        thread = self.chosen()
        if self.round_tasks:
            self.at = (self.at + 1) % len(self.round_tasks)
        if thread is not None:
            self.pay(thread)
        return thread

    def pay(self, thread):
        payer = self.payers[thread]
        self.left[payer] = self.left[payer] - 1
        if self.left[payer] == 0:
            self.left[payer] = self.slices[payer]
            self.row.remove(thread)
            self.row.append(thread)


def ranks_of(turns):
    """Of each thread the priority by which it is chosen: the lent one, by table its own."""
    own = [thread[1] for thread in turns.threads]
    if turns.shifts:
        return own
    hangs = {thread: turns.links[thread][1] for thread in turns.links}
    return [lent_priority(own, hangs, thread) for thread in range(len(own))]


def tasks_of_round(shifts):
    tasks = []
    for task, ticks in shifts:
        tasks.extend([task] * ticks)
    return tasks


class Sheet:
    """What the lines of a text of turns have told so far."""

    def __init__(self):
        self.shifts = None
        self.at = None
        self.threads = []
        self.row = None
        self.links = {}

    def take(self, line):
        """Take one line; whether it can stand there."""
        words = line.split(" ")
        if self.shifts is None:
            return self.take_manner(words)
        if self.at is None:
            return self.take_at(line)
        if self.row is not None:
            return self.take_link(words)
        return self.take_row(words) if words[0] == "row" else self.take_thread(words)

    def take_manner(self, words):
        if words == ["manner", "slices"]:
            self.shifts = ()
            self.at = 0
            return True
        self.shifts = shifts_told(words[2:])
        return words[:2] == ["manner", "table"] and self.shifts is not None

    def take_at(self, line):
        self.at = number_told([line], 0, "at", (0, len(tasks_of_round(self.shifts)) - 1))
        return self.at is not None

    def take_thread(self, words):
        if words[0] != "thread" or len(words) != 5 or len(self.threads) == MOST_THREADS:
            return False
        task, priority, whole = number_in(words[1], 0, 5), number_in(words[2], 0, 7), number_in(words[3], 1, 20)
        if task is None or priority is None or whole is None:
            return False
        left = number_in(words[4], 1, whole)
        self.threads.append((task, priority, whole, left))
        return left is not None

    def take_row(self, words):
        row = [self.thread_told(word) for word in words[1:]]
        if not self.threads or None in row or len(set(row)) < len(row):
            return False
        self.row = tuple(row)
        return True

    def take_link(self, words):
        if words[0] not in ("waits", "calls") or len(words) != 3:
            return False
        thread, other = self.thread_told(words[1]), self.thread_told(words[2])
        if thread is None or other is None or thread == other or thread in self.row:
            return False
        link = (words[0], other)
        if any([told >= thread for told in self.links]) or link in self.called():
            return False
        self.links[thread] = link
        return True

    def called(self):
        return [link for link in self.links.values() if link[0] == "calls"]

    def thread_told(self, word):
        return number_in(word, 0, len(self.threads) - 1)


def shifts_told(words):
    """The pairs (task, ticks) of a round that words tell, None if they tell none."""
    if len(words) % 2 != 0 or not 2 <= len(words) <= 16:
        return None
    numbers = [number_in(word, 0, 5) if at % 2 == 0 else number_in(word, 1, 20) for at, word in enumerate(words)]
    if None in numbers:
        return None
    return tuple([(numbers[at], numbers[at + 1]) for at in range(0, len(numbers), 2)])


def _linked(links, word):
    return tuple([(thread, links[thread][1]) for thread in links if links[thread][0] == word])
