"""Cells, and what rows do with them."""

from clankernel.asm import is_laid
from clankernel.checks import is_address, is_within, is_word, is_word_tuple
from clankernel.errors import BadCell, BadMemory, BadNumber, BadValue, BadWord, BadWords
from clankernel.rows import RECKONED, row_of


class Cell:
    def __init__(self, registers, place):
        if not is_word_tuple(registers, 8) or not is_address(place):
            raise BadCell((registers, place))
        self.registers = registers
        self.place = place

    def __eq__(self, other):
        return isinstance(other, Cell) and self.registers == other.registers and self.place == other.place

    def with_place(self, place):
        if not is_address(place):
            raise BadNumber(place)
        return Cell(self.registers, place)

    def with_register(self, number, word):
        if not is_within(number, 0, 7):
            raise BadNumber(number)
        if not is_word(word):
            raise BadWord(word)
        return Cell((*self.registers[:number], word, *self.registers[number + 1:]), self.place)


def wants(cell, word):
    row = row_of(word)
    if _fault(cell, word, row) is not None or row[0] != "load":
        return None
    return _meant(cell, row)


def touches(cell, word):
    row = row_of(word)
    found = [("x", cell.place // 16)]
    if _fault(cell, word, row) is None and row[0] in ("load", "store"):
        letter = "r" if row[0] == "load" else "w"
        found.append((letter, _meant(cell, row) // 16))
    return tuple(sorted(found))


def does(cell, word, value):
    wanted = wants(cell, word)
    if not (value is None if wanted is None else is_word(value)):
        raise BadValue(value)
    row = row_of(word)
    fault = _fault(cell, word, row)
    if fault is not None:
        return ("fault", *fault)
    if row[0] in ("call", "trap"):
        return (row[0], cell.with_place(_next_place(cell, 1)), row[1])
    if row[0] == "store":
        return ("writes", cell.with_place(_next_place(cell, 1)), _meant(cell, row), cell.registers[row[1]])
    return ("goes", _behind(cell, row, value))


def memory_of(words):
    if not is_laid(words):
        raise BadWords(words)
    memory = [0] * 256
    for address, word in words:
        memory[address] = word
    return tuple(memory)


def step(cell, memory):
    if not is_word_tuple(memory, 256):
        raise BadMemory(memory)
    told = _does_in(cell, memory)
    if told[0] == "writes":
        return ("goes", told[1], (*memory[:told[2]], told[3], *memory[told[2] + 1:]))
    if told[0] == "goes":
        return ("goes", told[1], memory)
    if told[0] in ("call", "trap"):
        return (told[0], told[1], memory, told[2])
    return told


def run_rows(cell, memory, ticks):
    if not is_word_tuple(memory, 256):
        raise BadMemory(memory)
    if not is_within(ticks, 0, 400):
        raise BadNumber(ticks)
    words = list(memory)
    now = cell
    for done in range(ticks):
        told = _does_in(now, words)
        if told[0] == "fault":
            return (done, now, tuple(words), told)
        now = told[1]
        if told[0] == "writes":
            words[told[2]] = told[3]
        if told[0] in ("call", "trap"):
            return (done + 1, now, tuple(words), (told[0], told[2]))
    return (ticks, now, tuple(words), ("ticks",))


def _does_in(cell, words):
    """What the row at the place of this Cell does among these words."""
    word = words[cell.place]
    wanted = wants(cell, word)
    return does(cell, word, None if wanted is None else words[wanted])


def _meant(cell, row):
    """The word B + N of a load or a store."""
    return (cell.registers[row[2]] + row[3]) % 65536


def _next_place(cell, by):
    return (cell.place + by) % 256


def _fault(cell, word, row):
    if row is None:
        return ("row", word)
    if row[0] in ("div", "rem") and cell.registers[row[2]] == 0:
        return ("nought", cell.place)
    if row[0] in ("load", "store") and _meant(cell, row) > 255:
        return ("beyond", _meant(cell, row))
    if row[0] == "go" and cell.registers[row[1]] > 255:
        return ("beyond", cell.registers[row[1]])
    return None


def _behind(cell, row, value):
    """The Cell behind a row that neither faults, writes, calls nor traps."""
    onward = cell.with_place(_next_place(cell, 1))
    name = row[0]
    if name == "set":
        return onward.with_register(row[1], row[2])
    if name == "high":
        return onward.with_register(row[1], 256 * row[2] + cell.registers[row[1]] % 256)
    if name == "load":
        return onward.with_register(row[1], value)
    if name in RECKONED:
        return onward.with_register(row[1], _reckoned(name, cell.registers[row[1]], cell.registers[row[2]]))
    if name == "link":
        return cell.with_register(row[1], _next_place(cell, 1)).with_place(row[2])
    return cell.with_place(_place_behind(cell, row))


def _place_behind(cell, row):
    """Where a row leads that changes nothing but the place."""
    name = row[0]
    if name == "jump":
        return row[1]
    left = cell.registers[row[1]]
    if name == "go":
        return left
    if name in ("zero", "some"):
        return row[2] if (left == 0) == (name == "zero") else _next_place(cell, 1)
    right = cell.registers[row[2]]
    holds = left < right if name == "less" else left == right
    return _next_place(cell, 1 if holds else 2)


def _reckoned(name, left, right):
    if name == "copy":
        return right
    if name == "add":
        return (left + right) % 65536
    if name == "sub":
        return (left - right) % 65536
    if name == "mul":
        return (left * right) % 65536
    if name == "div":
        return left // right
    if name == "rem":
        return left % right
    if name == "and":
        return left & right
    if name == "or":
        return left | right
    if name == "xor":
        return left ^ right
    if right >= 16:
        return 0
    return (left << right) % 65536 if name == "shl" else left >> right
