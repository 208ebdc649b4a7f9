"""Items, of which joint stands are made, and their texts: integers, None, words and tuples."""

from pushalike.base.words import is_integer, is_letter
from pushalike.joint.rows import is_rows
from pushalike.text.integers import integer_of

MAX_DEPTH = 20
EMPTY = "-"


def is_word(value):
    """Whether the value is a string of one or more letters."""
    return isinstance(value, str) and len(value) > 0 and all([is_letter(sign) for sign in value])


def is_item(value, depth):
    """Whether the value is an item that is nested at most so deep."""
    if isinstance(value, tuple):
        return depth > 0 and all([is_item(inner, depth - 1) for inner in value])
    return value is None or is_word(value) or is_integer(value)


def has_stand_form(value):
    """Whether the value has the form of a joint stand, of whatever pair."""
    if not isinstance(value, tuple) or len(value) != 4:
        return False
    shape, other, classes, rows = value
    if not is_item(shape, MAX_DEPTH - 1) or not is_item(other, MAX_DEPTH - 1):
        return False
    return isinstance(classes, tuple) and all([is_integer(number) for number in classes]) and is_rows(rows)


def item_text(value):
    """The text of an item."""
    if value is None:
        return EMPTY
    if isinstance(value, tuple):
        return "(" + " ".join([item_text(inner) for inner in value]) + ")"
    return str(value)


def stand_of(text):
    """What has the form of a joint stand and is written like this, or None."""
    value = item_of(text.replace("(", " ( ").replace(")", " ) ").split(" "))
    # Blanks, and words that are none, are told apart by writing the value again.
    return value if has_stand_form(value) and item_text(value) == text else None


def item_of(words):
    """The last tuple with these words, of which empty ones do not count, or None if they are no tuples."""
    # A text can be nested far deeper than functions should call themselves, so the tuples that have begun are kept.
    begun = []
    found = None
    for word in words:
        if word == "(":
            begun.append([])
        elif word != "" and len(begun) == 0:
            return None
        elif word == ")":
            found = tuple(begun.pop())
            if len(begun) > 0:
                begun[-1].append(found)
        elif word != "":
            begun[-1].append(word if is_word(word) else integer_of(word))
    return found if len(begun) == 0 else None
