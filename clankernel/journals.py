"""Journals: a system, and the deeds that were done on its kernel."""

from clankernel.checks import integer_of, line_of
from clankernel.errors import BadJournal, BadSystem, CoreError, NoSystem
from clankernel.kernel import Kernel
from clankernel.systems import System


def journal(kernel):
    if kernel.system is None:
        raise NoSystem(None)
    return "\n".join([kernel.system.text, "kernel"] + [line_of(deed[0], deed[1:]) for deed in kernel.deeds])


def read_journal(text):
    if type(text) is not str:
        raise BadJournal(0)
    lines = text.split("\n")
    if "kernel" not in lines:
        raise BadJournal(len(lines) + 1)
    many = lines.index("kernel")
    try:
        system = System("\n".join(lines[:many]))
    except BadSystem as error:
        raise BadJournal(error.value) from None
    kernel = Kernel(system)
    for number, line in enumerate(lines[many + 1:], start=many + 2):
        if not _is_done(kernel, line):
            raise BadJournal(number)
    return kernel


def _is_done(kernel, line):
    """Do the deed that a line tells; whether it tells one that is not refused."""
    words = line.split(" ")
    numbers = [integer_of(word) for word in words[1:]]
    if None in numbers or (words[0], len(numbers)) not in (("run", 1), ("tell", 2)):
        return False
    try:
        if words[0] == "run":
            kernel.run(numbers[0])
        else:
            kernel.tell(numbers[0], numbers[1])
    except CoreError:
        return False
    return True
