"""Images: the text of all that stands at a kernel, and the kernel that stands so."""

from clankernel.checks import number_in
from clankernel.clans import Clans
from clankernel.cells import Cell
from clankernel.devices import Devices
from clankernel.errors import BadImage, CoreError
from clankernel.faults import is_fault
from clankernel.fits import is_kernel
from clankernel.kernel import standing_kernel
from clankernel.rights import Rights
from clankernel.spaces import Spaces
from clankernel.stands import Stand, image_text
from clankernel.systems import tell_next
from clankernel.turns import Turns
from clankernel.waiting import Waits

WORLDS = ("world spaces", "world rights", "world clans", "world waits", "world turns", "world devices")
LAST_TICK = 400


def image(kernel):
    return image_text(kernel.stand)


def from_image(text):
    if type(text) is not str:
        raise BadImage(text)
    lines = text.split("\n")
    starts = [at for at, line in enumerate(lines) if line in WORLDS]
    stand = _worlds_of(lines, starts)
    if stand is None:
        raise BadImage(text)
    picture = Picture(stand)
    told = lines[:starts[0]] + lines[_end_of_worlds(lines, starts):]
    # Lines that stand otherwise than an image has them are found where it is written again.
    if not all([picture.take(line.split(" ")) for line in told]) or not is_kernel(stand) or image_text(stand) != text:
        raise BadImage(text)
    return standing_kernel(stand, ())


def _worlds_of(lines, starts):
    """A Stand with the worlds that the lines tell, and nothing else; None if they tell none."""
    if [lines[at] for at in starts] != list(WORLDS):
        return None
    ends = starts[1:] + [_end_of_worlds(lines, starts)]
    texts = ["\n".join(lines[start + 1:end]) for start, end in zip(starts, ends)]
    try:
        spaces, rights, clans = Spaces(texts[0]), Rights(texts[1]), Clans(texts[2])
        waits, turns, devices = Waits(texts[3]), Turns(texts[4]), Devices(texts[5])
    except CoreError:
        return None
    return Stand(spaces, rights, clans, waits, turns, devices)


def _end_of_worlds(lines, starts):
    """The number of the first line behind that of the last world."""
    for at in range(starts[-1], len(lines)):
        if lines[at].split(" ")[0] in ("words", "input"):
            return at
    return len(lines)


class Picture:
    """A stand whose worlds are known, and what the other lines of an image tell of it."""

    def __init__(self, stand):
        self.stand = stand
        stand.frame_words = [[0] * 16 for _ in range(stand.spaces.frames)]

    def take(self, words):
        """Take one line; whether it has its form."""
        match words[0]:
            case "tick":
                return True
            case "cell":
                return self.take_cell(words)
            case "border":
                return self.take_border(words)
            case "passing":
                return self.take_passing(words)
            case "meant":
                return self.take_meant(words)
            case "items":
                return self.take_items(words)
            case "fault":
                return self.take_fault(words)
            case "words":
                return self.take_words(words)
            case "input":
                return self.take_input(words)
        return False

    def take_cell(self, words):
        if len(words) != 14:
            return False
        place, registers = number_in(words[2], 0, 255), _words_told(words[3:11])
        if place is None or registers is None:
            return False
        self.stand.cells.append(Cell(registers, place))
        self.stand.door_pairs.append((number_in(words[12], 0, 15), number_in(words[13], 0, 15)))
        return True

    def take_border(self, words):
        numbers = self.numbers_told(words, (5, self.last_gate()))
        return numbers is not None and tell_next(self.stand.borders, numbers[0], numbers[1])

    def take_passing(self, words):
        if len(words) != 5:
            return False
        badge = number_in(words[3], 0, 999)
        numbers = self.numbers_told(words[:3] + words[4:], (self.last_thread(), self.last_gate(), 5))
        return numbers is not None and tell_next(self.stand.passings, numbers[0], (numbers[1], badge, numbers[2]))

    def take_meant(self, words):
        numbers = self.numbers_told(words, (self.last_thread(), self.last_gate(), 5))
        return numbers is not None and tell_next(self.stand.meant, numbers[0], tuple(numbers[1:]))

    def take_items(self, words):
        numbers = self.numbers_told(words[:2], (self.last_thread(),))
        told = _words_told(words[2:])
        return numbers is not None and told is not None and tell_next(self.stand.told_items, numbers[0], told)

    def take_fault(self, words):
        numbers = self.numbers_told(words[:2], (self.last_thread(),))
        if numbers is None or len(words) != 5:
            return False
        kind, one, two = words[2:]
        fault = (kind, one, number_in(two, 0, 65535)) if kind == "page" else (kind, number_in(one, 0, 65535))
        return is_fault(fault) and tell_next(self.stand.faults, numbers[0], fault)

    def take_words(self, words):
        numbers = self.numbers_told(words[:2], (self.stand.spaces.frames - 1,))
        told = _words_told(words[2:])
        if numbers is None or told is None or len(told) != 16:
            return False
        self.stand.frame_words[numbers[0]] = list(told)
        return True

    def take_input(self, words):
        numbers = self.numbers_told(words, (LAST_TICK, len(self.stand.devices) - 1, 65535))
        if numbers is None:
            return False
        self.stand.inputs.append(tuple(numbers))
        return True

    def last_thread(self):
        return len(self.stand.waits) - 1

    def last_gate(self):
        return len(self.stand.waits.owners) - 1

    def numbers_told(self, words, bounds):
        """The numbers behind the first word of a line, each from 0 to its bound; None if they are none."""
        numbers = [number_in(word, 0, bound) for word, bound in zip(words[1:], bounds)]
        return None if len(words) != len(bounds) + 1 or None in numbers else numbers


def _words_told(words):
    """The words that stand so, None if one is none."""
    told = tuple([number_in(word, 0, 65535) for word in words])
    return None if None in told else told
