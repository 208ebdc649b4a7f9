"""All shapes of a part, written down from the document without the package."""

from itertools import product

from tests.oracle import has_own_it

LETTERS = "ab"
ENDLESS = ("source", "never", "every", "again")


def letters_as_a(shape):
    """The shape with `a` for each kept letter, so that it is among those that are written down."""
    if isinstance(shape, tuple):
        return tuple(letters_as_a(item) for item in shape)
    if isinstance(shape, str) and len(shape) == 1 and "a" <= shape <= "z":
        return "a"
    return shape


def wide(tree, it):
    """The width of a part of a pipeline."""
    word = tree[0]
    if word == "source":
        return 1
    if word == "never":
        return tree[1]
    if word in ("one", "after", "every"):
        return 0
    if word == "it":
        return it
    if word == "pick":
        return len(tree[1])
    if word == "pairs":
        return 2 * wide(tree[1], it)
    if word == "&":
        return wide(tree[1], it) + wide(tree[2], it)
    if word in ("switch", "busy"):
        return wide(tree[2], wide(tree[1], it))
    return wide(tree[1] if word in ("+", "at", "until", "then") else tree[-1], it)


def shapes(tree, it=None):
    """All shapes of a part with the letters `a` and `b`: triples with the number of values and the clocks.

    Clocks are told as pairs: the number, and whether the reading is at most that of the clock before.
    """
    found = list(going(tree, it))
    if tree[0] not in ENDLESS:
        found.append(("over", 0, []))
    return found


def alive(tree, it):
    """The shapes of a part that is not over."""
    return [shape for shape in shapes(tree, it) if shape[0] != "over"]


def combined(own, many, clocks, parts):
    """The shape with these items, values and clocks of its own, and these parts."""
    for part in parts:
        own, many, clocks = own + (part[0],), many + part[1], clocks + part[2]
    return own, many, clocks


def going(tree, it):
    word = tree[0]
    if word in ("source", "never"):
        yield "on", 0, []
    elif word in ("after", "every"):
        yield "on", 0, [(tree[1], False)]
    elif word in ("one", "it"):
        return
    elif word in ("switch", "busy"):
        yield from copying(tree, it)
    elif word in ("then", "else"):
        for part in alive(tree[-2], it):
            yield combined((1,), 0, [(tree[1], False)] if word == "else" else [], [part])
        for part in alive(tree[-1], it):
            yield combined((2,), 0, [], [part])
    elif word in ("+", "&", "at", "until"):
        yield from doubles(tree, it)
    else:
        yield from singles(tree, it)


def doubles(tree, it):
    word, one, other = tree
    for p, q in product(shapes(one, it), shapes(other, it)):
        if word in ("+", "&") and p[0] == "over" and q[0] == "over":
            continue
        if (word == "until" and p[0] == "over") or (word == "at" and q[0] == "over"):
            continue
        if word == "&":
            for i, j in product((0, 1), (0, 1)):
                yield combined((i, j), i * wide(one, it) + j * wide(other, it), [], [p, q])
        elif word == "at":
            yield combined((None,), 0, [], [p, q])
            for letter in LETTERS:
                yield combined((letter,), wide(one, it), [], [p, q])
        else:
            yield combined((), 0, [], [p, q])


def singles(tree, it):
    word, part = tree[0], tree[-1]
    kept = wide(part, it)
    for p in shapes(part, it):
        if word == "late":
            for many in range(tree[2] + 1):
                if many > 0 or p[0] != "over":
                    for letters in product(LETTERS, repeat=many):
                        yield combined((letters,), many * kept, [(tree[1], k > 0) for k in range(many)], [p])
        elif p[0] == "over":
            continue
        elif word in ("only", "pick", "again"):
            yield combined((), 0, [], [p])
        elif word == "fold":
            for state in range(9):
                yield combined((state,), 0, [], [p])
        elif word == "first":
            for left in range(1, tree[1] + 1):
                yield combined((left,), 0, [], [p])
        elif word in ("changes", "pairs"):
            yield combined((0,), 0, [], [p])
            yield combined((1,), kept, [], [p])
        elif word == "spaced":
            yield combined((0,), 0, [], [p])
            yield combined((1,), 0, [(tree[1], False)], [p])
        elif word == "quiet":
            yield combined((None,), 0, [], [p])
            for letter in LETTERS:
                yield combined((letter,), kept, [(tree[1], False)], [p])


def copying(tree, it):
    _, part, pattern = tree
    kept = wide(part, it)
    own = has_own_it(pattern)
    for p in shapes(part, it):
        if p[0] != "over":
            yield (p[0], None), p[1], p[2]
        for r in alive(pattern, kept):
            for letter in LETTERS if own else [None]:
                yield (p[0], (letter, r[0])), (kept if own else 0) + p[1] + r[1], p[2] + r[2]
