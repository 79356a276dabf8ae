"""Loads of jobs that are asked for from outside, and how long answers can take."""

from clankernel.checks import is_ascending, is_tuple_of, is_within, number_in
from clankernel.errors import BadAsks, BadLoads, BadTicks, BadWithin, NoJob

MOST_JOBS = 6
MOST_ASKS = 600
MOST_TICKS = 400


class Loads:
    """Each of jobs is (every, priority, work)."""

    def __init__(self, text):
        if type(text) is not str:
            raise BadLoads(0)
        jobs = []
        for number, line in enumerate(text.split("\n"), start=1):
            job = job_row(line)
            if job is None or len(jobs) == MOST_JOBS or job[1] in [other[1] for other in jobs]:
                raise BadLoads(number)
            jobs.append(job)
        self.text = text
        self.jobs = tuple(jobs)

    def __eq__(self, other):
        return isinstance(other, Loads) and self.text == other.text

    def greater(self, job):
        """The jobs that are greater than this one."""
        return [other for other in range(len(self.jobs)) if self.jobs[other][1] > self.jobs[job][1]]


def job_row(line):
    """What a line job tells, None if it has not this form."""
    words = line.split(" ")
    if words[0] != "job" or len(words) != 4:
        return None
    row = (number_in(words[1], 1, 99), number_in(words[2], 0, 7), number_in(words[3], 1, 99))
    return None if None in row else row


def play(loads, asks, ticks):
    if not _is_asks(loads, asks):
        raise BadAsks(asks)
    if not is_within(ticks, 0, MOST_TICKS):
        raise BadTicks(ticks)
    return _played(loads, asks, ticks)


def answer(loads, job):
    _check_job(loads, job)
    every = loads.jobs[job][0]
    time = _answer_time(loads, job, loads.greater(job))
    if time is None:
        return ("late", _asks_at_once(loads, job, every))
    return ("within", time, _asks_at_once(loads, job, time))


def shows_answer(loads, job, value):
    _check_job(loads, job)
    time = _answer_time(loads, job, loads.greater(job))
    if is_tuple_of(value, 2) and value[0] == "late":
        if not _is_asks(loads, value[1]):
            return False
        return any([told > loads.jobs[job][0] for told in _times_of(loads, job, value[1])])
    if not is_tuple_of(value, 3) or value[0] != "within" or type(value[1]) is not int or value[1] != time:
        return False
    return _is_asks(loads, value[2]) and time in _times_of(loads, job, value[2])


def priorities(loads, within):
    _check_within(loads, within)
    lot = list(range(len(loads.jobs)))
    numbers = [0] * len(lot)
    for number in range(len(numbers)):
        last = _can_stand_last(loads, within, lot)
        if not last:
            return ("none", tuple(lot))
        numbers[last[0]] = number
        lot = [job for job in lot if job != last[0]]
    return ("priorities", tuple(numbers))


def shows_priorities(loads, within, value):
    _check_within(loads, within)
    if not is_tuple_of(value, 2) or type(value[1]) is not tuple:
        return False
    if value[0] == "priorities":
        return _shows_numbers(loads, within, value[1])
    lot = value[1]
    if value[0] != "none" or not all([is_within(job, 0, len(loads.jobs) - 1) for job in lot]):
        return False
    return len(lot) > 0 and is_ascending(lot) and not _can_stand_last(loads, within, lot)


def _shows_numbers(loads, within, numbers):
    """Whether these are priorities with which all answers are in time."""
    jobs = range(len(loads.jobs))
    if len(numbers) != len(jobs) or not all([is_within(number, 0, 7) for number in numbers]):
        return False
    if len(set(numbers)) < len(numbers):
        return False
    lots = [[other for other in jobs if numbers[other] > numbers[job]] for job in jobs]
    return all([_is_in_time(loads, job, lots[job], within[job]) for job in jobs])


def _can_stand_last(loads, within, lot):
    """Which jobs of a lot are in time if all others of the lot are greater."""
    found = []
    for job in lot:
        others = [other for other in lot if other != job]
        if _is_in_time(loads, job, others, within[job]):
            found.append(job)
    return found


def _is_in_time(loads, job, others, most):
    time = _answer_time(loads, job, others)
    return time is not None and time <= most


def _answer_time(loads, job, others):
    """The greatest answer time of a job if just these others are greater, None if it is longer than its EVERY."""
    every, _, work = loads.jobs[job]
    time = work
    while time <= every:
        needed = work + sum([loads.jobs[other][2] * _times_asked(loads, other, time) for other in others])
        if needed == time:
            return time
        time = needed
    return None


def _times_asked(loads, job, ticks):
    """How often at the most a job is asked for within so many ticks."""
    every = loads.jobs[job][0]
    return (ticks + every - 1) // every


def _asks_at_once(loads, job, ticks):
    """A job asked for at tick 0, and all greater ones too, again as soon as can be, for so many ticks."""
    asks = [(0, job)]
    for other in loads.greater(job):
        asks.extend([(tick, other) for tick in range(0, ticks, loads.jobs[other][0])])
    return tuple(sorted(asks))


def _is_asks(loads, value):
    """Whether any value is asks for these loads."""
    if type(value) is not tuple or len(value) > MOST_ASKS:
        return False
    if not all([_is_ask(loads, ask) for ask in value]) or not is_ascending(value):
        return False
    last = {}
    for tick, job in value:
        if job in last and tick < last[job] + loads.jobs[job][0]:
            return False
        last[job] = tick
    return True


def _is_ask(loads, value):
    return is_tuple_of(value, 2) and is_within(value[0], 0, 400) and is_within(value[1], 0, len(loads.jobs) - 1)


def _times_of(loads, job, asks):
    """The answer times of all right asks for one job, however long they take."""
    # Behind the last tick with an ask nobody idles until all are done.
    ticks = MOST_TICKS + sum([loads.jobs[told][2] for _, told in asks])
    _, answers = _played(loads, asks, ticks)
    return [answers[at] for at in range(len(asks)) if asks[at][1] == job]


def _played(loads, asks, ticks):
    """Which job has each tick, and the answer time of each right ask, None if it is not done."""
    ranked = sorted([(-row[1], job) for job, row in enumerate(loads.jobs)])
    rows = []
    answers = [None] * len(asks)
    # Of each job the numbers of its asks that are not done, and what is left of the eldest one.
    open_asks = [[] for _ in loads.jobs]
    left = [work for _, _, work in loads.jobs]
    coming = 0
    for tick in range(ticks):
        while coming < len(asks) and asks[coming][0] == tick:
            open_asks[asks[coming][1]].append(coming)
            coming = coming + 1
        asked = [job for _, job in ranked if open_asks[job]]
        rows.append(asked[0] if asked else None)
        if asked:
            first = asked[0]
            left[first] = left[first] - 1
            if left[first] == 0:
                left[first] = loads.jobs[first][2]
                done = open_asks[first].pop(0)
                answers[done] = tick - asks[done][0] + 1
    return tuple(rows), tuple(answers)


def _check_job(loads, job):
    if not is_within(job, 0, len(loads.jobs) - 1):
        raise NoJob(job)


def _check_within(loads, within):
    if not is_tuple_of(within, len(loads.jobs)):
        raise BadWithin(within)
    if not all([is_within(most, 1, loads.jobs[job][0]) for job, most in enumerate(within)]):
        raise BadWithin(within)
