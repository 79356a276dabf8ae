"""A desk: lines that are said to a kernel, and what it answers."""

from clankernel.checks import integer_of
from clankernel.errors import BadLine
from clankernel.journals import read_journal

# How many numbers stand behind the first word of each line.
FORMS = {
    "run": 1, "tell": 2, "undo": 0, "redo": 0, "tick": 0, "state": 1, "place": 1, "registers": 1, "word": 2,
    "read": 2, "ahead": 1,
}
DONE = "ok"


class Desk:
    def __init__(self, text):
        self.kernel = read_journal(text)

    def say(self, line):
        if type(line) is not str or "\n" in line:
            raise BadLine(line)
        words = line.split(" ")
        numbers = [integer_of(word) for word in words[1:]]
        if words[0] not in FORMS or len(numbers) != FORMS[words[0]] or None in numbers:
            raise BadLine(line)
        if words[0] in ("run", "tell", "undo", "redo"):
            self.do(words[0], numbers)
            return DONE
        return self.answered(words[0], numbers)

    def do(self, name, numbers):
        match name:
            case "run":
                self.kernel.run(numbers[0])
            case "tell":
                self.kernel.tell(numbers[0], numbers[1])
            case "undo":
                self.kernel.undo()
            case _:
                self.kernel.redo()

    def answered(self, name, numbers):
        """What the kernel tells of itself, and stays as it is."""
        kernel = self.kernel
        match name:
            case "tick":
                return str(kernel.tick)
            case "state":
                return kernel.state(numbers[0])
            case "place":
                return str(kernel.cell(numbers[0]).place)
            case "registers":
                return " ".join([str(word) for word in kernel.cell(numbers[0]).registers])
            case "word":
                return str(kernel.word(numbers[0], numbers[1]))
            case "read":
                word = kernel.read(numbers[0], numbers[1])
                return "fault" if word is None else str(word)
        return self.ahead(numbers[0])

    def ahead(self, ticks):
        with self.kernel.trial() as held:
            events = held.run(ticks)
        kinds = [event[1] for event in events]
        met, faulted = kinds.count("met"), kinds.count("fault")
        return f"{len(events)} {met} {faulted}"
