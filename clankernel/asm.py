"""Programs: texts that lay words, and words that are told or moved."""

from clankernel.checks import is_address, is_ascending, is_tuple_of, is_within, is_word, number_in, number_of
from clankernel.errors import BadMove, BadProgram, BadWords
from clankernel.rows import SHAPES, WEIGHTS, is_placed, row_of, row_text, word_of


class Program:
    def __init__(self, text):
        if type(text) is not str:
            raise BadProgram(0)
        layout = Layout()
        for number, line in enumerate(text.split("\n"), start=1):
            if not layout.take(number, line):
                raise BadProgram(number)
        wrong = layout.first_unfit()
        if wrong is not None:
            raise BadProgram(wrong)
        self.text = text
        self.words = layout.laid_words()
        self.names = tuple(sorted([(name, layout.told[name]) for name in layout.told]))

    def __eq__(self, other):
        return isinstance(other, Program) and self.text == other.text


class Layout:
    """What the lines of a program have told so far.

    Names may be used ahead of the line that tells them, so a laid word is kept
    as (line, base, part, most): its word is base and the part, an integer or a
    name, which may be at most so great.
    """

    def __init__(self):
        self.counter = 0
        self.told = {}
        self.laid = {}

    def take(self, number, line):
        """Take one line; whether it can stand there."""
        if line.startswith("# "):
            return True
        words = line.split(" ")
        if line.endswith(":"):
            return self.tell(line[:-1], self.counter)
        if words[0] == "at" and len(words) == 2:
            return self.go_on_at(number_in(words[1], 0, 255))
        if words[0] == "name" and len(words) == 3:
            return self.tell(words[1], number_in(words[2], 0, 65535))
        if words[0] == "space" and len(words) == 2:
            return self.lay_space(number, number_in(words[1], 1, 256))
        if words[0] == "word" and len(words) == 2:
            part = part_of(words[1])
            return part is not None and self.lay(number, 0, part, 65535)
        return self.lay_row(number, words)

    def tell(self, name, number):
        if not is_name(name) or name in self.told or number is None:
            return False
        self.told[name] = number
        return True

    def go_on_at(self, address):
        if address is None:
            return False
        self.counter = address
        return True

    def lay(self, number, base, part, most):
        if self.counter > 255 or self.counter in self.laid:
            return False
        self.laid[self.counter] = (number, base, part, most)
        self.counter = self.counter + 1
        return True

    def lay_space(self, number, many):
        if many is None:
            return False
        for _ in range(many):
            if not self.lay(number, 0, 0, 0):
                return False
        return True

    def lay_row(self, number, words):
        if words[0] not in SHAPES:
            return False
        base, many, most = SHAPES[words[0]]
        if len(words) != 1 + many + (0 if most is None else 1):
            return False
        for word, weight in zip(words[1:many + 1], WEIGHTS):
            if word not in ("r0", "r1", "r2", "r3", "r4", "r5", "r6", "r7"):
                return False
            base = base + weight * int(word[1])
        if most is None:
            return self.lay(number, base, 0, 0)
        part = part_of(words[-1])
        return part is not None and self.lay(number, base, part, most)

    def number_for(self, part):
        return part if type(part) is int else self.told.get(part)

    def first_unfit(self):
        """The first line whose part is told by none, or too great; None without."""
        for number, _, part, most in self.laid.values():
            known = self.number_for(part)
            if known is None or known > most:
                return number
        return None

    def laid_words(self):
        laid = self.laid
        return tuple([(at, laid[at][1] + self.number_for(laid[at][2])) for at in sorted(laid)])


def part_of(text):
    """The integer or the name that stands so, None if neither does."""
    if is_name(text):
        return text
    return number_of(text)


def is_name(text):
    return 1 <= len(text) <= 8 and all([sign in "abcdefghijklmnopqrstuvwxyz" for sign in text])


def is_laid(value):
    """Whether any value is laid words."""
    if type(value) is not tuple or not all([_is_laid_word(pair) for pair in value]):
        return False
    return is_ascending([pair[0] for pair in value])


def _is_laid_word(value):
    return is_tuple_of(value, 2) and is_address(value[0]) and is_word(value[1])


def text_of(words):
    if not is_laid(words):
        raise BadWords(words)
    lines = []
    behind = None
    for address, word in words:
        if address != behind:
            lines.append(f"at {address}")
        row = row_of(word)
        lines.append(f"word {word}" if row is None else row_text(row))
        behind = address + 1
    return "\n".join(lines) if lines else "# none"


def moved(words, by):
    if not is_laid(words):
        raise BadWords(words)
    if not is_within(by, -255, 255) or not all([is_address(address + by) for address, _ in words]):
        raise BadMove(by)
    places = [address for address, _ in words]
    return tuple([(address + by, _moved_word(word, by, places)) for address, word in words])


def _moved_word(word, by, places):
    row = row_of(word)
    if row is None or not is_placed(row) or row[-1] not in places:
        return word
    return word_of((*row[:-1], row[-1] + by))
