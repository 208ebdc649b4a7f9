"""Integers in texts."""

DIGITS = "0123456789"
MAX_DIGITS = 60


def integer_of(word):
    """The integer of at most sixty digits that is written like this, or None."""
    digits = word[1:] if word.startswith("-") else word
    # The length comes first: texts can be far longer than integers that may be read.
    if not 1 <= len(digits) <= MAX_DIGITS or not all([sign in DIGITS for sign in digits]):
        return None
    value = int(word)
    return value if str(value) == word else None
