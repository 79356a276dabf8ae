"""Devices: what they keep until somebody takes it, and where they are bound."""

from clankernel.checks import is_lot, is_tuple_of, is_within, is_word, number_in
from clankernel.errors import BadBadge, BadDevices, BadGate, BadGates, BadInputs, BadWord, NoDevice, Quiet

MOST_DEVICES = 4
MOST_TIMES = 255
LAST_GATE = 11
LAST_BADGE = 65534
# The first word of each message of a device.
RANG = 8


class Devices:
    """Each of rows is (gate, badge, word, times): gate None for none, times 0 if nothing is kept."""

    def __init__(self, text):
        if type(text) is not str:
            raise BadDevices(0)
        rows = []
        lines = [] if text == "none" else text.split("\n")
        for number, line in enumerate(lines, start=1):
            row = device_row(line)
            if row is None or number > MOST_DEVICES:
                raise BadDevices(number)
            rows.append(row)
        self.text = text
        self.rows = tuple(rows)

    def __eq__(self, other):
        return isinstance(other, Devices) and self.text == other.text

    def __len__(self):
        return len(self.rows)

    def rang(self, device, word):
        gate, badge, _, times = self.row_named(device)
        if not is_word(word):
            raise BadWord(word)
        return self.with_row(device, (gate, badge, word, min(times + 1, MOST_TIMES)))

    def bound(self, device, gate, badge):
        row = self.row_named(device)
        if gate is not None and not is_within(gate, 0, LAST_GATE):
            raise BadGate(gate)
        if not is_within(badge, 0, 0 if gate is None else LAST_BADGE):
            raise BadBadge(badge)
        return self.with_row(device, (gate, badge, *row[2:]))

    def first_at(self, gates):
        _check_gates(gates)
        for device, (gate, _, _, times) in enumerate(self.rows):
            if times > 0 and gate in gates:
                return device
        return None

    def taken(self, device):
        gate, badge, word, times = self.row_named(device)
        if times == 0:
            raise Quiet(device)
        return ((RANG, device, word, times), badge, self.with_row(device, (gate, badge, 0, 0)))

    def gone(self, gates):
        _check_gates(gates)
        return Devices(_text_of([(None, 0, *row[2:]) if row[0] in gates else row for row in self.rows]))

    def has_device(self, value):
        """Whether any value is the number of a device."""
        return is_within(value, 0, len(self.rows) - 1)

    def row_named(self, device):
        if not self.has_device(device):
            raise NoDevice(device)
        return self.rows[device]

    def with_row(self, device, row):
        """The Devices in which this one stands so."""
        return Devices(_text_of([*self.rows[:device], row, *self.rows[device + 1:]]))


def device_row(line):
    """What a line device tells, None if it has not this form."""
    words = line.split(" ")
    if words[0] != "device" or len(words) not in (3, 5):
        return None
    gate = None if words[1] == "-" else number_in(words[1], 0, LAST_GATE)
    badge = number_in(words[2], 0, 0 if gate is None else LAST_BADGE)
    if badge is None or (gate is None and words[1] != "-"):
        return None
    if len(words) == 3:
        return (gate, badge, 0, 0)
    word, times = number_in(words[3], 0, 65535), number_in(words[4], 1, MOST_TIMES)
    return None if word is None or times is None else (gate, badge, word, times)


def fed(devices, inputs):
    if not _is_inputs(devices, inputs):
        raise BadInputs(inputs)
    later = devices
    for _, device, word in inputs:
        later = later.rang(device, word)
    return later


def _is_inputs(devices, value):
    if type(value) is not tuple or len(value) > 12:
        return False
    if not all([_is_input(devices, told) for told in value]):
        return False
    return all([value[at - 1][0] <= value[at][0] for at in range(1, len(value))])


def _is_input(devices, value):
    return is_tuple_of(value, 3) and is_within(value[0], 0, 400) and devices.has_device(value[1]) and is_word(value[2])


def _check_gates(value):
    if not is_lot(value, 0, LAST_GATE):
        raise BadGates(value)


def _text_of(rows):
    return "\n".join([_line_of(row) for row in rows]) if rows else "none"


def _line_of(row):
    gate, badge, word, times = row
    told = "-" if gate is None else gate
    return f"device {told} {badge}" if times == 0 else f"device {told} {badge} {word} {times}"
