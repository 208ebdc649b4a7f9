"""The texts of arguments: the numbers and letters of trees."""

from pushalike.tree.forms import is_argument

# Stands where a text would be empty.
EMPTY = "-"
DIGITS = "0123456789"
# More than each number in a tree has; a longer text is not read as one.
MAX_DIGITS = 60


def argument_text(value, kind):
    """The text of an argument of this kind."""
    if kind == "letters":
        return "".join(value)
    if kind == "letter":
        return value
    if kind == "places":
        return ",".join([str(place) for place in value]) if len(value) > 0 else EMPTY
    if kind == "table":
        return ",".join([half_text(one) + half_text(other) for one, other in value])
    return str(value)


def half_text(half):
    """The text of a state and a letter."""
    state, letter = half
    return str(state) + (EMPTY if letter == "" else letter)


def read_argument(word, kind):
    """The argument of this kind with this text, or None if there is none."""
    value = read_kind(word, kind)
    return value if is_argument(value, kind) else None


def read_kind(word, kind):
    """What a text of this kind stands for, whether it may stand there or not."""
    if kind == "letters":
        return tuple(word)
    if kind == "letter":
        return word
    if kind == "places":
        return () if word == EMPTY else tuple([read_number(place) for place in word.split(",")])
    if kind == "table":
        return tuple([read_pair(pair) for pair in word.split(",")])
    return read_number(word)


def read_pair(word):
    """The pair of a table with this text, or None."""
    if len(word) != 4:
        return None
    other = "" if word[3] == EMPTY else word[3]
    return ((read_number(word[0]), word[1]), (read_number(word[2]), other))


def read_number(word):
    """The integer of at least 0 with this text, or None."""
    if word == "" or len(word) > MAX_DIGITS or not all([sign in DIGITS for sign in word]):
        return None
    return int(word) if word == "0" or word[0] != "0" else None
