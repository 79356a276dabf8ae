"""Ticks of a kernel: limits end, devices ring, one row is done, and turns follow."""

from clankernel.calls import do_call
from clankernel.cells import does, wants
from clankernel.faults import door_of, fault_words
from clankernel.follow import turns_behind
from clankernel.meeting import rung, ticked
from clankernel.scenes import Scene


def run_ticks(stand, ticks):
    """So many ticks go by, and change this stand: all events of them."""
    scene = Scene(stand)
    for _ in range(ticks):
        _tick(scene)
    return tuple(scene.events)


def _tick(scene):
    stand = scene.stand
    scene.changes = []
    scene.take_told(ticked(stand.waits), None)
    _ring_inputs(scene)
    _meet_devices(scene)
    thread = stand.turns.next
    if thread is None:
        scene.happen(("idle",))
    else:
        _do_row(scene, thread)
    stand.turns = turns_behind(stand.turns, scene.changes)


def _ring_inputs(scene):
    stand = scene.stand
    now = [told for told in stand.inputs if told[0] == stand.waits.now]
    stand.inputs = stand.inputs[len(now):]
    for _, device, word in now:
        stand.devices = stand.devices.rang(device, word)
        scene.happen(("rang", device, word))


def _meet_devices(scene):
    """Devices that keep something are met, as long as one rings where the owner receives."""
    stand = scene.stand
    device = stand.devices.first_at(stand.open_gates())
    while device is not None:
        gate = stand.devices.rows[device][0]
        words, badge, stand.devices = stand.devices.taken(device)
        scene.take_told(rung(stand.waits, gate, badge, words), None)
        device = stand.devices.first_at(stand.open_gates())


def _do_row(scene, thread):
    """Who runs does the row at its place, or faults."""
    stand = scene.stand
    place = stand.cells[thread].place
    told = _row_done(stand, thread)
    if told[0] == "fault":
        _fault(scene, thread, told[1:], place)
        return
    scene.happen(("row", thread, place))
    stand.cells[thread] = told[1]
    if told[0] == "writes":
        stand.write(stand.spot(stand.task_of(thread), told[2], "w"), told[3])
    elif told[0] == "call":
        scene.happen(("call", thread, told[2]))
        do_call(scene, thread, told[2])
    elif told[0] == "trap":
        _fault(scene, thread, ("trap", told[2]), place)


def _row_done(stand, thread):
    """What the row of a thread does, as does tells it: ("fault", ..) also of a page."""
    cell, task = stand.cells[thread], stand.task_of(thread)
    word = stand.word_at(task, cell.place, "x")
    if word is None:
        return ("fault", "page", "x", cell.place)
    wanted = wants(cell, word)
    value = None if wanted is None else stand.word_at(task, wanted, "r")
    if wanted is not None and value is None:
        return ("fault", "page", "r", wanted)
    told = does(cell, word, value)
    if told[0] == "writes" and stand.spot(task, told[2], "w") is None:
        return ("fault", "page", "w", told[2])
    return told


def _fault(scene, thread, fault, place):
    """A fault begins, of the row at this place: it goes out by a door, or the thread rests."""
    stand = scene.stand
    scene.happen(("fault", thread, fault))
    pager, handler = stand.door_pairs[thread]
    door = pager if door_of(fault) == "pager" else handler
    meant = None if door is None else stand.meant_by(thread, door)
    gate = None if meant is None else stand.gate_towards(thread, meant[0])
    if gate is None:
        scene.let_rest(thread)
        return
    stand.faults[thread] = fault
    scene.send_over(thread, gate, meant, (fault_words(fault, place), None, "reply", None))
