"""The widths of parts."""

from pushalike.tree.forms import COPYING, parts_of

MAX_WIDTH = 4


def width_of(tree, own):
    """The width of a part, or None if widths do not fit or a tree is not complete.

    `own` is the width of the ("it",) of the pattern around the part, None without a pattern.
    """
    parts = parts_of(tree)
    if len(parts) == 0:
        return leaf_width(tree, own)
    first = width_of(parts[0], own)
    if first is None:
        return None
    if len(parts) == 1:
        return single_width(tree, first)
    second = width_of(parts[1], first if tree[0] in COPYING else own)
    if second is None:
        return None
    return double_width(tree[0], first, second)


def leaf_width(tree, own):
    """The width of a leaf, or None for an ("it",) without a pattern."""
    if tree[0] == "source":
        return 1
    if tree[0] in ("never", "told"):
        return tree[1]
    return own if tree[0] == "it" else 0


def single_width(tree, width):
    """The width of an operator over one part of this width, or None if they do not fit."""
    if tree[0] == "pick":
        return len(tree[1]) if all([place < width for place in tree[1]]) else None
    if tree[0] == "changes":
        return width if width >= 1 else None
    if tree[0] == "pairs":
        return 2 * width if 2 * width <= MAX_WIDTH else None
    return width


def double_width(word, first, second):
    """The width of an operator over two parts of these widths, or None if they do not fit."""
    if word in COPYING:
        return second
    if word in ("at", "until"):
        return first
    if word == "&":
        return first + second if first + second <= MAX_WIDTH else None
    return first if first == second else None
