"""Scenes: a stand in the midst of a run, what has happened in it, and what turns have to follow."""

from clankernel.carrying import carried_over
from clankernel.cells import Cell
from clankernel.faults import behind_answer
from clankernel.meeting import message
from clankernel.results import CUT, DONE, result_number
from clankernel.waiting import READY

# What registers tell of no badge, of the gate of a reply, of a message that was turned.
NO_BADGE = 65535
NO_GATE = 15
TURNED = 32768


class Scene:
    """Changes are what became otherwise in this tick, in the sequence of events, as turns follow it."""

    def __init__(self, stand):
        self.stand = stand
        self.events = []
        self.changes = []

    def happen(self, told):
        self.events.append((self.stand.waits.now, *told))

    def result(self, thread, number):
        """A number comes into r0, and it is told."""
        cells = self.stand.cells
        cells[thread] = cells[thread].with_register(0, number)
        self.happen(("result", thread, number))

    def let_rest(self, thread):
        """A fault that nobody answers, or whose answer wants it so: its thread rests."""
        self.happen(("rests", thread))
        self.changes.append(("rest", thread))

    def change_spaces(self, later):
        ahead = self.stand.spaces
        self.stand.spaces = later
        self.tell_changed("pages", _held_pages(ahead), _held_pages(later))

    def change_rights(self, later):
        ahead = self.stand.rights
        self.stand.rights = later
        self.tell_changed("rights", _places_of_rights(ahead), _places_of_rights(later))

    def tell_changed(self, kind, ahead, behind):
        """Tell all for which this is otherwise than it was, if there is one."""
        changed = [one for one in sorted(set([*ahead, *behind])) if ahead.get(one) != behind.get(one)]
        if changed:
            self.happen((kind, tuple(changed)))

    def send(self, thread, to, badge, halves):
        """A thread's message; halves: words, limit, source, wait. Turns follow it, too."""
        words, limit, source, wait = halves
        self.take_told(message(self.stand.waits, thread, to, badge, words, limit, source, wait), source)
        self.follow(thread)

    def send_over(self, thread, gate, meant, halves):
        """A message over this gate; meant: the gate that it is meant for, its badge, its origin."""
        goal, badge, origin = meant
        if gate != goal:
            self.stand.meant[thread] = (goal, origin)
        self.send(thread, gate, badge, halves)

    def take_told(self, outcome, source):
        """The waits behind a deed, and what it told; source is the second half of who runs."""
        ahead = self.stand.waits
        self.stand.waits = outcome[0]
        for row in outcome[1]:
            if row[0] != "met":
                self.end_wait(row)
                continue
            state = READY if row[2] is None else ahead.state(row[2])
            self.meet(row, source if state == READY else state[6])
        self.stand.drop_ended()

    def end_wait(self, row):
        """A wait has ended without a meeting: late, broken, gone, lost."""
        thread = row[1]
        if thread in self.stand.faults:
            self.let_rest(thread)
            return
        self.result(thread, result_number(row[0], row[2] if len(row) > 2 else None))
        self.changes.append(("row", thread))

    def meet(self, row, then):
        """One meeting; then is what its sender does behind it."""
        _, kind, sender, receiver, _, _, words = row
        self.happen(row)
        came, whole = (0, 0) if kind == "device" else carried_over(self, sender, receiver)
        number = CUT if came < whole else DONE
        rests = False
        if receiver in self.stand.faults:
            rests = self.take_answer(receiver, words)
        else:
            self.receive(row, number, came)
        if sender is not None and then is None:
            self.result(sender, number)
        self.follow_meeting(row, rests)

    def receive(self, row, number, came):
        """What comes into the receiver's registers, and its passing right, if the message was turned."""
        _, _, sender, receiver, gate, badge, words = row
        turned = 0
        if gate is not None and sender in self.stand.meant:
            meant, origin = self.stand.meant[sender]
            turned = TURNED + 16 * meant + origin
            self.stand.passings[receiver] = (meant, badge, origin)
        told = (number, NO_BADGE if badge is None else badge, (NO_GATE if gate is None else gate) + 16 * came)
        self.stand.cells[receiver] = Cell((*told, *words, turned), self.stand.cells[receiver].place)
        if turned > 0:
            self.happen(("passing", receiver, *self.stand.passings[receiver]))

    def take_answer(self, thread, words):
        """A fault is answered by these words: whether its thread rests then."""
        fault, cell = self.stand.faults[thread], self.stand.cells[thread]
        answer = behind_answer(fault, words)
        if answer[0] == "rests":
            self.happen(("rests", thread))
            return True
        # A trap stands behind its row already, any other fault at it.
        trapped = fault[0] == "trap"
        place = answer[1] if answer[0] == "at" else cell.place
        if answer[0] == "on" and not trapped:
            place = (place + 1) % 256
        if answer[0] == "again" and trapped:
            place = (place - 1) % 256
        self.stand.cells[thread] = cell.with_place(place)
        return False

    def follow_meeting(self, row, rests):
        """What turns have to follow of a meeting, the receiver first; rests: whether it does."""
        _, kind, sender, receiver, _, _, _ = row
        waits = self.stand.waits
        if kind == "called" and sender == self.stand.turns.next and waits.owes(receiver) == sender:
            self.changes.append(("call", sender, receiver))
            return
        if kind == "replied":
            self.changes.append(("reply", sender, receiver))
        if rests:
            self.changes.append(("rest", receiver))
        else:
            self.follow(receiver)
        if sender is not None:
            self.follow(sender)

    def follow(self, thread):
        """Turns have to follow what this thread does by its waits."""
        waits = self.stand.waits
        state = waits.state(thread)
        if state == READY:
            self.changes.append(("row", thread))
        elif state[0] == "sends" and waits.owners[state[1]] != thread:
            self.changes.append(("wait", thread, waits.owners[state[1]]))
        elif state[:2] != ("receives", "reply"):
            # Who receives a reply has called who owes it, or waited to be met by it, and hangs on it already.
            self.changes.append(("rest", thread))


def _held_pages(spaces):
    return {(task, page): (frame, letters) for task, page, frame, letters in spaces.pages}


def _places_of_rights(rights):
    return {row[0]: row[2] for row in rights.rows}
