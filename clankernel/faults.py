"""Faults: when they come, the words of their messages, and what their answers mean."""

from clankernel.checks import is_address, is_tuple_of, is_within, is_word, is_word_tuple
from clankernel.errors import BadAccesses, BadFault, BadLetters, BadPlace, BadWords
from clankernel.pages import is_letters
from clankernel.rows import row_of

# The codes of faults of pages are the numbers from 1 on of these letters.
LETTERS = ("r", "w", "x")
CODES = {"beyond": 4, "row": 5, "nought": 6, "trap": 7}


def first_refused(letters, accesses):
    if not is_tuple_of(letters, 16) or not all([value == "" or is_letters(value) for value in letters]):
        raise BadLetters(letters)
    if not _is_accesses(accesses):
        raise BadAccesses(accesses)
    for address, letter in accesses:
        if letter not in letters[address // 16]:
            return ("page", letter, address)
    return None


def fault_words(fault, place):
    _check_fault(fault)
    if not is_address(place) or not _comes_at(fault, place):
        raise BadPlace(place)
    code = LETTERS.index(fault[1]) + 1 if fault[0] == "page" else CODES[fault[0]]
    return (code, fault[-1], place, 0)


def fault_of(words):
    if not is_word_tuple(words, 4):
        raise BadWords(words)
    code, number, place, rest = words
    fault = _fault_with(code, number)
    if not is_fault(fault) or not is_address(place) or not _comes_at(fault, place) or rest != 0:
        raise BadWords(words)
    return (fault, place)


def door_of(fault):
    _check_fault(fault)
    return "pager" if fault[0] == "page" else "handler"


def behind_answer(fault, words):
    _check_fault(fault)
    if not is_word_tuple(words, 4):
        raise BadWords(words)
    if fault[0] == "page" or words[0] == 1:
        return ("again",)
    if words[0] == 0:
        return ("on",)
    if words[0] == 2 and is_address(words[1]):
        return ("at", words[1])
    return ("rests",)


def _is_accesses(value):
    if type(value) is not tuple or not 1 <= len(value) <= 2 or not _is_access(value[0], ("x",)):
        return False
    return len(value) == 1 or _is_access(value[1], ("r", "w"))


def _is_access(value, letters):
    return is_tuple_of(value, 2) and is_address(value[0]) and value[1] in letters


def _check_fault(value):
    if not is_fault(value):
        raise BadFault(value)


def is_fault(value):
    """Whether any value is a fault."""
    if is_tuple_of(value, 3):
        return value[0] == "page" and value[1] in LETTERS and is_address(value[2])
    if not is_tuple_of(value, 2):
        return False
    kind, number = value
    if kind == "beyond":
        return is_within(number, 256, 65535)
    if kind == "row":
        return is_word(number) and row_of(number) is None
    return kind in ("nought", "trap") and is_address(number)


def _comes_at(fault, place):
    """Whether a fault can come of a row at this place."""
    if fault[0] == "nought" or fault[:2] == ("page", "x"):
        return fault[-1] == place
    return True


def _fault_with(code, number):
    """The fault that a code and its value would tell, None without such a code."""
    if 1 <= code <= len(LETTERS):
        return ("page", LETTERS[code - 1], number)
    for kind in CODES:
        if CODES[kind] == code:
            return (kind, number)
    return None
