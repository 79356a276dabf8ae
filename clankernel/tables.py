"""Tables of words, by which the addresses of a space are looked up."""

from clankernel.checks import is_address, is_within
from clankernel.errors import BadAddress, BadTables, NoTask
from clankernel.trees import page_at

BITS = {"r": 1, "w": 2, "x": 4}


def tables_of(spaces, task):
    directories = []
    entries = []
    for first in (0, 4, 8, 12):
        found = [page_at(spaces, task, page) for page in range(first, first + 4)]
        large = _large(found)
        if found == [None, None, None, None]:
            directories.append(0)
        elif large is not None:
            directories.append(large)
        else:
            directories.append(4 + len(entries))
            entries.extend([_entry(held) for held in found])
    return tuple(directories + entries)


def walk(tables, address):
    if not _is_tables(tables):
        raise BadTables(tables)
    if not is_address(address):
        raise BadAddress(address)
    found = _page_by(tables, address // 16)
    if found is None:
        return None
    return (found[0], address % 16, found[1])


def shows_tables(spaces, task, value):
    if not spaces.has_task(task):
        raise NoTask(task)
    if not _is_tables(value):
        return False
    return all([_page_by(value, page) == page_at(spaces, task, page) for page in range(16)])


def _bits(letters):
    return sum([BITS[letter] for letter in letters])


def _letters(bits):
    return "".join([letter for letter in "rwx" if bits & BITS[letter]])


def _entry(held):
    return 0 if held is None else 128 + 8 * held[0] + _bits(held[1])


def _large(found):
    """The large directory of four pages, None if they cannot have one."""
    if None in found:
        return None
    first, letters = found[0]
    if first % 4 != 0 or found != [(first + at, letters) for at in range(4)]:
        return None
    return 384 + 8 * first + _bits(letters)


def _is_tables(value):
    if type(value) is not tuple or not 4 <= len(value) <= 64:
        return False
    if not all([is_within(word, 0, 511) for word in value]):
        return False
    return all([_is_directory(value, word) for word in value[:4]])


def _is_directory(tables, word):
    if word == 0:
        return True
    if word >= 384:
        return word % 8 != 0 and (word - 384) // 8 in (0, 4, 8, 12)
    return 4 <= word <= len(tables) - 4 and all([_is_entry(entry) for entry in tables[word:word + 4]])


def _is_entry(word):
    return word == 0 or (128 <= word <= 255 and word % 8 != 0)


def _page_by(tables, page):
    """(frame, letters) of a page by right tables, None if it has nothing."""
    directory = tables[page // 4]
    if directory == 0:
        return None
    if directory >= 384:
        return ((directory - 384) // 8 + page % 4, _letters(directory % 8))
    entry = tables[directory + page % 4]
    if entry == 0:
        return None
    return ((entry - 128) // 8, _letters(entry % 8))
