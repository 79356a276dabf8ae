"""Calls of the kernel: what they do, and the results that they bring."""

from clankernel.errors import BadItems, CoreError
from clankernel.hot import is_block
from clankernel.items import PAGE_LETTERS, RIGHT_LETTERS, block_of, items_in
from clankernel.kills import kill
from clankernel.meeting import broken
from clankernel.results import BAD, BARRED, DONE, NO_RIGHT, REFUSED
from clankernel.waiting import GONE

# What registers of a message tell besides places and gates.
TO_PASSING = 253
TO_REPLY = 254
TO_NOBODY = 255
FROM_REPLY = 253
FROM_ANY = 254
FROM_NOBODY = 255
FOREVER = 255
MOST_ITEM_WORDS = 29
# What registers of other calls tell.
DOORS = 1
KILL = 2
OWN_TASK = 255
NO_DOOR = 255
SAME_PLACE = 65535


def do_call(scene, thread, number):
    """A call of the kernel by who runs; its result comes, where it is not told later."""
    registers = scene.stand.cells[thread].registers
    result = BAD
    match number:
        case 0:
            result = _message(scene, thread, registers)
        case 1:
            result = _unmap(scene, thread, registers)
        case 2:
            result = _change_rights(scene, thread, registers)
        case 3:
            result = _control(scene, thread, registers)
        case 4:
            scene.changes.append(("way", thread))
            result = DONE
    if result is not None:
        scene.result(thread, result)


def _message(scene, thread, registers):
    """A message: its result if there is no half of it, or it tells none; else None."""
    stand = scene.stand
    to, source = registers[:2]
    items = _items_at(stand, stand.task_of(thread), registers[7])
    if not _is_message(registers) or items is None:
        return BAD
    if source < FROM_REPLY and source not in stand.own_gates(thread):
        return NO_RIGHT
    if to == TO_NOBODY and source == FROM_NOBODY:
        return DONE
    halves = (registers[3:7], _limit(registers[2] // 256), _source(source), _limit(registers[2] % 256))
    if to in (TO_NOBODY, TO_REPLY):
        if to == TO_REPLY and stand.waits.owes(thread) is None:
            return NO_RIGHT
        _tell_items(stand, thread, items)
        scene.send(thread, None if to == TO_NOBODY else "reply", None, halves)
        return None
    return _message_over(scene, thread, to, (items, halves))


def _message_over(scene, thread, to, told):
    """A message to a place, or by the passing right; told: its items, its halves."""
    stand = scene.stand
    meant = stand.passings.get(thread) if to == TO_PASSING else stand.meant_by(thread, to)
    if meant is None:
        return NO_RIGHT
    gate = stand.gate_towards(thread, meant[0])
    if gate is None:
        return BARRED
    if to == TO_PASSING:
        del stand.passings[thread]
    _tell_items(stand, thread, told[0])
    scene.send_over(thread, gate, meant, told[1])
    return None


def _is_message(registers):
    to, source = registers[:2]
    if source == FROM_REPLY:
        return to <= 15 or to == TO_PASSING
    return (to <= 15 or TO_PASSING <= to <= TO_NOBODY) and source <= FROM_NOBODY


def _limit(number):
    return None if number == FOREVER else number


def _source(number):
    """The second half that a register tells, as a message takes it."""
    if number == FROM_NOBODY:
        return None
    if number == FROM_ANY:
        return "any"
    return "reply" if number == FROM_REPLY else number


def _items_at(stand, task, address):
    """The words of items from an address on, the ending 0 too; () of 0; None if they are none."""
    if address == 0:
        return ()
    words = []
    for at in range(address, min(address + MOST_ITEM_WORDS, 256)):
        word = stand.word_at(task, at, "r")
        if word is None:
            break
        words.append(word)
    try:
        rows = items_in(tuple(words))
    except BadItems:
        return None
    return tuple(words[:4 * len(rows) + 1])


def _tell_items(stand, thread, words):
    if words:
        stand.told_items[thread] = words


def _unmap(scene, thread, registers):
    block, letters, own = registers[:3]
    if not is_block(block_of(block)) or not 1 <= letters <= 7 or own > 1:
        return BAD
    stand = scene.stand
    task = stand.task_of(thread)
    scene.change_spaces(stand.spaces.unmapped(task, block_of(block), PAGE_LETTERS[letters], own == 1))
    return DONE


def _change_rights(scene, thread, registers):
    if not _is_change(registers):
        return BAD
    stand = scene.stand
    task = stand.task_of(thread)
    if stand.rights.right_in(task, registers[1]) is None:
        return NO_RIGHT
    try:
        later = _rights_behind(stand.rights, task, registers)
    except CoreError:
        return REFUSED
    scene.change_rights(later)
    return DONE


def _is_change(registers):
    how, place, to, told = registers[:4]
    if how > 4 or place > 15 or (how < 3 and to > 15):
        return False
    if how == 0:
        return 1 <= told <= 7
    return how != 1 or told <= 999


def _rights_behind(rights, task, registers):
    how, place, to, told = registers[:4]
    match how:
        case 0:
            return rights.copied(task, place, to, RIGHT_LETTERS[told])
        case 1:
            return rights.minted(task, place, to, told)
        case 2:
            return rights.moved(task, place, to)
        case 3:
            return rights.dropped(task, place)
    return rights.taken_back(task, place)


def _control(scene, thread, registers):
    if not _is_control(registers):
        return BAD
    how, place, other, one, two = registers[:5]
    stand = scene.stand
    task = stand.task_of(thread)
    if place != OWN_TASK:
        row = stand.rights.right_in(task, place)
        if row is None or row[3][0] != "t":
            return NO_RIGHT
        task = int(row[3][1:])
    if how == KILL:
        return kill(scene, thread, task)
    if not _is_thread_of(stand, task, other):
        return REFUSED
    if how == DOORS:
        stand.door_pairs[other] = (_door(one), _door(two))
    else:
        _set_thread(scene, other, one, two)
    return DONE


def _is_control(registers):
    how, place, other, one, two = registers[:5]
    if how == KILL:
        return place <= 15
    if how > KILL or (place > 15 and place != OWN_TASK) or other > 7:
        return False
    if how == DOORS:
        return all([door <= 15 or door == NO_DOOR for door in (one, two)])
    return (one <= 255 or one == SAME_PLACE) and two <= 2


def _is_thread_of(stand, task, thread):
    """Whether there is this thread, of this task, and it is not gone."""
    return thread < len(stand.cells) and stand.task_of(thread) == task and stand.waits.state(thread) != GONE


def _door(number):
    return None if number == NO_DOOR else number


def _set_thread(scene, thread, place, how):
    """A thread is set: how 0: it rests; 1: it is ready; 2: neither."""
    stand = scene.stand
    if how < 2 and stand.is_waiting(thread):
        outcome = broken(stand.waits, thread)
        if thread in stand.faults:
            # A fault is over without a word.
            outcome = (outcome[0], ())
        scene.take_told(outcome, None)
    if how < 2:
        scene.changes.append(("row" if how == 1 else "rest", thread))
    if place != SAME_PLACE:
        stand.cells[thread] = stand.cells[thread].with_place(place)
