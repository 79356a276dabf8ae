"""What is asked of any value, and of the words of a text."""


def is_within(value, low, high):
    """Whether any value is an integer (so no bool) from low to high."""
    return type(value) is int and low <= value <= high


def is_word(value):
    return is_within(value, 0, 65535)


def is_address(value):
    return is_within(value, 0, 255)


def is_tuple_of(value, many):
    """Whether any value is a tuple of so many things."""
    return type(value) is tuple and len(value) == many


def is_word_tuple(value, many):
    return is_tuple_of(value, many) and all([is_word(word) for word in value])


def is_badge(value):
    """Whether any value is a badge that a message can have, None for none."""
    return value is None or is_within(value, 0, 65534)


def is_ascending(values):
    """Whether values that can be compared ascend, none of them twice."""
    return all([values[at - 1] < values[at] for at in range(1, len(values))])


def is_lot(value, low, high):
    """Whether any value is an ascending tuple of integers from low to high."""
    if type(value) is not tuple:
        return False
    return all([is_within(number, low, high) for number in value]) and is_ascending(value)


def number_of(text):
    """The integer from 0 on that Python writes so, None if there is none."""
    if text == "" or not all([sign in "0123456789" for sign in text]):
        return None
    if text[0] == "0" and text != "0":
        return None
    return int(text)


def integer_of(text):
    """The integer that Python writes so, also one below 0, None if there is none."""
    if text.startswith("-") and text != "-0":
        number = number_of(text[1:])
        return None if number is None else -number
    return number_of(text)


def number_in(text, low, high):
    """The integer from low to high that Python writes so, None if there is none."""
    number = number_of(text)
    if number is None or not low <= number <= high:
        return None
    return number


def number_told(lines, at, head, bounds):
    """The number within bounds that stands alone behind the first word of a line.

    None if there is no such line, or it has another form.
    """
    words = lines[at].split(" ") if at < len(lines) else []
    if len(words) != 2 or words[0] != head:
        return None
    return number_in(words[1], bounds[0], bounds[1])


def line_of(head, values):
    """The line of a text with this first word, and these values behind it."""
    return " ".join([head] + [str(value) for value in values])
