"""Results of calls, as the kernel tells them."""

from clankernel.errors import BadResult

# No result has the number 12.
RESULTS = (
    ("done", None),
    ("late", "send"),
    ("late", "receive"),
    ("gone", "send"),
    ("gone", "receive"),
    ("broken", "send"),
    ("broken", "receive"),
    ("lost", None),
    ("no right", None),
    ("barred", None),
    ("cut", None),
    ("bad", None),
    None,
    ("refused", None),
)
# Those that calls themselves tell.
DONE = 0
NO_RIGHT = 8
BARRED = 9
CUT = 10
BAD = 11
REFUSED = 13


def result_number(word, half):
    for number, told in enumerate(RESULTS):
        if told == (word, half):
            return number
    raise BadResult((word, half))


def result_word(number):
    if type(number) is not int or not 0 <= number < len(RESULTS) or RESULTS[number] is None:
        raise BadResult(number)
    return RESULTS[number]
