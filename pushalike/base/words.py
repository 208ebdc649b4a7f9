"""What is a letter, a name, a layout, an event, an output or a list."""

from pushalike.base.arguments import ARGUMENTS

LETTERS = "abcdefghijklmnopqrstuvwxyz"
INTEGER_END = 10 ** 60
MAX_NAME = 8
MAX_SOURCES = 4
MAX_SOURCE_LETTERS = 4
MAX_VALUES = 4


def is_integer(value):
    """Whether the value is an integer of at most sixty digits."""
    return isinstance(value, int) and not isinstance(value, bool) and -INTEGER_END < value < INTEGER_END


def is_between(value, least, most):
    """Whether the value is an integer from `least` to `most`."""
    return is_integer(value) and least <= value <= most


def are_integers(value, many):
    """Whether the value is a tuple of so many integers."""
    return isinstance(value, tuple) and len(value) == many and all([is_integer(item) for item in value])


def is_letter(value):
    """Whether the value is a letter."""
    return isinstance(value, str) and len(value) == 1 and value in LETTERS


def is_letters(value):
    """Whether the value is an ascending tuple of at least one letter."""
    if not isinstance(value, tuple) or len(value) == 0:
        return False
    # Only letters are compared: other values may have no order.
    if not all([is_letter(letter) for letter in value]):
        return False
    return all([value[k] < value[k + 1] for k in range(len(value) - 1)])


def is_name(value):
    """Whether the value is a name: the words with which trees begin are none."""
    if not isinstance(value, str) or not 1 <= len(value) <= MAX_NAME:
        return False
    return all([is_letter(sign) for sign in value]) and value not in ARGUMENTS


def is_layout(value):
    """Whether the value is a layout."""
    if not isinstance(value, dict) or not 1 <= len(value) <= MAX_SOURCES:
        return False
    return all([is_name(name) and is_source_letters(value[name]) for name in value])


def is_source_letters(value):
    """Whether a source of a layout may have the value as its letters."""
    return is_letters(value) and len(value) <= MAX_SOURCE_LETTERS


def is_event(value):
    """Whether the value is an event, of whatever layout."""
    if not isinstance(value, tuple) or len(value) != 4:
        return False
    time, source, letter, worth = value
    return is_integer(time) and time >= 0 and is_name(source) and is_letter(letter) and is_integer(worth)


def is_output(value):
    """Whether the value is an output."""
    if not isinstance(value, tuple) or len(value) != 2:
        return False
    letter, values = value
    return is_letter(letter) and is_values(values)


def is_values(value):
    """Whether an output may have the value as its values."""
    if not isinstance(value, tuple) or len(value) > MAX_VALUES:
        return False
    return all([is_integer(worth) for worth in value])


def is_list(value):
    """Whether the value is a list: outputs, and at its end perhaps the end."""
    if not isinstance(value, tuple):
        return False
    ended = len(value) > 0 and value[-1] == "end"
    outputs = value[:-1] if ended else value
    return all([is_output(output) for output in outputs])
