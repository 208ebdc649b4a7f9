"""Items, of which joint stands are made, and their texts: integers, None, words and tuples."""

from pushalike.base.words import is_integer, is_letter
from pushalike.joint.rows import is_rows
from pushalike.text.numbers import integer_of

MAX_DEPTH = 20
EMPTY = "-"


def is_word(value):
    """Whether the value is a string of one or more letters."""
    return isinstance(value, str) and len(value) > 0 and all([is_letter(sign) for sign in value])


def is_item(value, depth):
    """Whether the value is an item that is nested at most so deep."""
    if isinstance(value, tuple):
        return depth > 0 and all([is_item(inner, depth - 1) for inner in value])
    return value is None or is_word(value) or is_integer(value)


def has_stand_form(value):
    """Whether the value has the form of a joint stand, of whatever pair."""
    if not isinstance(value, tuple) or len(value) != 4:
        return False
    shape, other, classes, rows = value
    if not is_item(shape, MAX_DEPTH - 1) or not is_item(other, MAX_DEPTH - 1):
        return False
    return isinstance(classes, tuple) and all([is_integer(number) for number in classes]) and is_rows(rows)


def item_text(value):
    """The text of an item."""
    if value is None:
        return EMPTY
    if isinstance(value, tuple):
        return "(" + " ".join([item_text(inner) for inner in value]) + ")"
    return str(value)


def stand_of(text):
    """What has the form of a joint stand and is written like this, or None."""
    value = item_of(text.replace("(", " ( ").replace(")", " ) ").split(" "))
    # Blanks are only told apart by writing the value again.
    return value if has_stand_form(value) and item_text(value) == text else None


def item_of(words):
    """The tuple with these words, of which empty ones do not count, or None if there is none."""
    begun = []
    found = None
    for word in words:
        if word == "":
            continue
        if found is not None:
            return None
        if word == "(":
            # A text can be nested far deeper than functions should call themselves.
            if len(begun) == MAX_DEPTH:
                return None
            begun.append([])
        elif len(begun) == 0:
            return None
        elif word != ")":
            if word != EMPTY and not is_word(word) and integer_of(word) is None:
                return None
            begun[-1].append(plain_item_of(word))
        else:
            inner = tuple(begun.pop())
            if len(begun) > 0:
                begun[-1].append(inner)
            else:
                found = inner
    return found


def plain_item_of(word):
    """The item, no tuple, that is written like this."""
    if word == EMPTY:
        return None
    return word if is_word(word) else integer_of(word)
