"""Rows of the machine, and the words that tell them."""

from clankernel.checks import is_within, is_word
from clankernel.errors import BadRow, BadWord

# Each row by its name: its least word, how many registers it names,
# and the greatest N that it takes (None where it has no N).
SHAPES = {
    "set": (4096, 1, 511),
    "high": (8192, 1, 255),
    "copy": (12288, 2, None),
    "add": (12289, 2, None),
    "sub": (12290, 2, None),
    "mul": (12291, 2, None),
    "div": (12292, 2, None),
    "rem": (12293, 2, None),
    "and": (12294, 2, None),
    "or": (12295, 2, None),
    "xor": (12296, 2, None),
    "shl": (12297, 2, None),
    "shr": (12298, 2, None),
    "load": (16384, 2, 63),
    "store": (20480, 2, 63),
    "jump": (24576, 0, 255),
    "zero": (28672, 1, 255),
    "some": (32768, 1, 255),
    "less": (36864, 2, None),
    "same": (40960, 2, None),
    "link": (45056, 1, 255),
    "go": (49152, 1, None),
    "call": (53248, 0, 15),
    "trap": (57344, 0, 255),
}
# The names by the word's part above 4096; those at 3 are told by its lowest six bits.
NAMES = (None, "set", "high", None, "load", "store", "jump", "zero", "some",
         "less", "same", "link", "go", "call", "trap", None)
RECKONED = ("copy", "add", "sub", "mul", "div", "rem", "and", "or", "xor", "shl", "shr")
WEIGHTS = (512, 64)


def row_of(word):
    if not is_word(word):
        raise BadWord(word)
    name = _name_of(word)
    if name is None:
        return None
    base, many, most = SHAPES[name]
    rest = word - base
    numbers = []
    for weight in WEIGHTS[:many]:
        numbers.append(rest // weight)
        rest = rest % weight
    if most is None:
        return (name, *numbers) if rest == 0 else None
    return (name, *numbers, rest) if rest <= most else None


def word_of(row):
    if not is_row(row):
        raise BadRow(row)
    base, many, most = SHAPES[row[0]]
    word = base
    for number, weight in zip(row[1:many + 1], WEIGHTS):
        word = word + number * weight
    return word if most is None else word + row[-1]


def row_text(row):
    if not is_row(row):
        raise BadRow(row)
    many = SHAPES[row[0]][1]
    words = [row[0]]
    words.extend([f"r{number}" for number in row[1:many + 1]])
    words.extend([str(number) for number in row[many + 1:]])
    return " ".join(words)


def is_placed(row):
    if not is_row(row):
        raise BadRow(row)
    return row[0] in ("jump", "zero", "some", "link")


def is_row(value):
    """Whether any value is a row."""
    if type(value) is not tuple or len(value) == 0 or type(value[0]) is not str:
        return False
    if value[0] not in SHAPES:
        return False
    _, many, most = SHAPES[value[0]]
    bounds = [7] * many if most is None else [7] * many + [most]
    if len(value) != len(bounds) + 1:
        return False
    return all([is_within(number, 0, bound) for number, bound in zip(value[1:], bounds)])


def _name_of(word):
    group = word // 4096
    if group != 3:
        return NAMES[group]
    number = word % 64
    return RECKONED[number] if number < len(RECKONED) else None
