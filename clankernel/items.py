"""What a message carries besides its words: strings, pages, a right."""

from clankernel.checks import is_address, is_tuple_of, is_within, is_word
from clankernel.errors import BadAddress, BadItems, BadMany, BadMemory, BadRows
from clankernel.hot import is_block

# The kinds by the first words of their rows.
KINDS = (None, "string", "map", "grant", "right", "buffer", "window", "place")
PAGE_LETTERS = ("", "r", "w", "rw", "x", "rx", "wx", "rwx")
RIGHT_LETTERS = ("", "s", "", "sg", "c", "", "cg", "")
NO_BADGE = 65535


def items_in(words):
    if type(words) is not tuple or not all([is_word(word) for word in words]):
        raise BadItems(0)
    rows = []
    at = 0
    while at >= len(words) or words[at] != 0:
        row = _row_of(words[at:at + 4])
        if row is None or not _fits_behind(row, rows):
            raise BadItems(len(rows) + 1)
        rows.append(row)
        at = at + 4
    return tuple(rows)


def item_words(items):
    words = _words_of(items)
    if words is None:
        raise BadRows(items)
    return (*words, 0)


def copied(source, target, start, goal, many):
    if not _is_reach(source):
        raise BadMemory(source)
    if not _is_reach(target):
        raise BadMemory(target)
    if not is_address(start):
        raise BadAddress(start)
    if not is_address(goal):
        raise BadAddress(goal)
    if not is_within(many, 1, 16):
        raise BadMany(many)
    written = list(target)
    # In one memory what is written is read later.
    read = written if source == target else list(source)
    for done in range(many):
        beyond = start + done > 255 or goal + done > 255
        if beyond or read[start + done] is None or written[goal + done] is None:
            return (done, tuple(written))
        written[goal + done] = read[start + done]
    return (many, tuple(written))


def fitting(sent, received):
    if _words_of(sent) is None:
        raise BadRows(sent)
    if _words_of(received) is None:
        raise BadRows(received)
    kinds = [row[0] for row in sent]
    ready = [row[0] for row in received]
    pages = "map" in kinds or "grant" in kinds
    most = min(_many_in(sent, "string"), _many_in(received, "buffer"))
    return (most, pages and "window" in ready, "right" in kinds and "place" in ready)


def _is_reach(value):
    """Whether any value is a memory of which some words perhaps cannot be reached."""
    return is_tuple_of(value, 256) and all([word is None or is_word(word) for word in value])


def _many_in(rows, kind):
    """How many words the row of this kind tells, 0 without one."""
    return sum([row[2] for row in rows if row[0] == kind])


def _fits_behind(row, rows):
    """Whether one more row can stand behind these."""
    kinds = [told[0] for told in rows]
    if row[0] in ("map", "grant"):
        return kinds.count("map") + kinds.count("grant") < 2
    return row[0] not in kinds


def _row_of(words):
    """The row that four words tell, None if they tell none, or are fewer."""
    if len(words) < 4 or words[0] >= len(KINDS):
        return None
    row = _parts_told(KINDS[words[0]], words[1], words[2], words[3])
    # Words that tell a row are just those that are told by it.
    return row if _row_words(row) == words else None


def _parts_told(kind, one, two, three):
    """What the words of a row tell if they are right, of wrong ones anything."""
    if kind in ("string", "buffer"):
        return (kind, one, two)
    if kind in ("map", "grant"):
        return (kind, block_of(one), PAGE_LETTERS[two % 8], three)
    if kind == "right":
        return (kind, one, RIGHT_LETTERS[two % 8], None if three == NO_BADGE else three)
    return (kind, block_of(one) if kind == "window" else one)


def block_of(word):
    return (word // 32, word % 32)


def _words_of(value):
    """The words of all rows, without the ending 0; None for what is no tuple of rows."""
    if type(value) is not tuple:
        return None
    words = []
    for at, row in enumerate(value):
        told = _row_words(row)
        if told is None or not _fits_behind(row, value[:at]):
            return None
        words.extend(told)
    return words


def _row_words(value):
    """The four words of a row, None for what is none."""
    if type(value) is not tuple or len(value) < 2 or type(value[0]) is not str:
        return None
    parts = _numbers_told(value[0], value[1:]) if value[0] in KINDS else None
    return None if parts is None else (KINDS.index(value[0]), *parts)


def _numbers_told(kind, parts):
    """The three words behind the first one of a row of this kind, None if it is none."""
    if kind in ("string", "buffer"):
        right = len(parts) == 2 and is_address(parts[0]) and is_within(parts[1], 1, 16)
        return (*parts, 0) if right else None
    if kind in ("map", "grant"):
        right = len(parts) == 3 and is_block(parts[0]) and _is_one_of(parts[1], PAGE_LETTERS)
        if not right or not is_within(parts[2], 0, 15):
            return None
        return (_block_word(parts[0]), PAGE_LETTERS.index(parts[1]), parts[2])
    if kind == "right":
        right = len(parts) == 3 and is_within(parts[0], 0, 15) and _is_one_of(parts[1], RIGHT_LETTERS)
        if not right or not (parts[2] is None or is_within(parts[2], 0, 999)):
            return None
        return (parts[0], RIGHT_LETTERS.index(parts[1]), NO_BADGE if parts[2] is None else parts[2])
    if len(parts) != 1:
        return None
    if kind == "window":
        return (_block_word(parts[0]), 0, 0) if is_block(parts[0]) else None
    return (parts[0], 0, 0) if is_within(parts[0], 0, 15) else None


def _is_one_of(value, table):
    return value != "" and value in table


def _block_word(block):
    return 32 * block[0] + block[1]
