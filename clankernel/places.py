"""Places of tables, trees of rights, and rows of deeds."""

from clankernel.errors import BadDeeds, BadLetters, CoreError, NoRight, NoThing, Refused

# How many values each deed of rights takes.
DEEDS = {
    "first": 3,
    "with_gate": 1,
    "copied": 4,
    "minted": 4,
    "handed": 6,
    "moved": 3,
    "dropped": 2,
    "taken_back": 2,
    "gone": 1,
}


def right_at(rights, task, place):
    rights.check_task(task)
    rights.check_place(place)
    return rights.right_in(task, place)


def right_chain(rights, number):
    parents = _parents(rights, number)
    chain = []
    above = number
    while above is not None:
        chain.append(above)
        above = parents[above]
    return tuple(chain)


def right_beneath(rights, number):
    _parents(rights, number)
    return tuple(rights.numbers_beneath([number]))


def right_holders(rights, thing, letter):
    if not rights.has_thing(thing):
        raise NoThing(thing)
    if type(letter) is not str or letter not in ("s", "g", "c"):
        raise BadLetters(letter)
    found = {row[1]: True for row in rights.rows if row[3] == thing and letter in row[4]}
    return tuple(sorted(found))


def bared(rights, number):
    lost = right_beneath(rights, number)
    left = [(row[1], row[3]) for row in rights.rows if row[0] not in lost]
    gone = {(row[1], row[3]): True for row in rights.rows if row[0] in lost and (row[1], row[3]) not in left}
    return tuple(sorted(gone))


def after_deeds(rights, deeds):
    if type(deeds) is not tuple or len(deeds) > 40 or not all([_is_deed(deed) for deed in deeds]):
        raise BadDeeds(deeds)
    now = rights
    for number, deed in enumerate(deeds):
        try:
            now = _deed_done(now, deed)
        except CoreError as error:
            raise Refused((number, error.value)) from None
    return now


def _parents(rights, number):
    """The parent of each right, if there is one with this number."""
    parents = {row[0]: row[6] for row in rights.rows}
    if type(number) is not int or number not in parents:
        raise NoRight(number)
    return parents


def _is_deed(value):
    if type(value) is not tuple or len(value) == 0 or type(value[0]) is not str:
        return False
    return value[0] in DEEDS and len(value) == 1 + DEEDS[value[0]]


def _deed_done(rights, deed):
    values = deed[1:]
    match deed[0]:
        case "first":
            return rights.first(*values)
        case "with_gate":
            return rights.with_gate(*values)
        case "copied":
            return rights.copied(*values)
        case "minted":
            return rights.minted(*values)
        case "handed":
            return rights.handed(*values)
        case "moved":
            return rights.moved(*values)
        case "dropped":
            return rights.dropped(*values)
        case "taken_back":
            return rights.taken_back(*values)
    return rights.gone(*values)
