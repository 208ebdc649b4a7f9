"""Plans: trees with what is asked for again and again while they run."""

from pushalike.tree.forms import COPYING, is_closed, parts_of
from pushalike.tree.widths import width_of


class Plan:
    """The plan of a part; it never changes.

    `word` and `terms` are the word of the tree and what stands between it and the parts, `parts` the plans of
    the parts, and `wide` is the width. `copies_it` tells whether the pattern of a switch or busy has an ("it",)
    of its own.
    """

    def __init__(self, tree, own):
        """`own` is the width of the ("it",) of the pattern around the part, None without a pattern."""
        parts = parts_of(tree)
        self.word = tree[0]
        self.terms = tree[1:len(tree) - len(parts)]
        self.parts = plans_of(tree[0], parts, own)
        self.wide = width_of(tree, own)
        self.copies_it = tree[0] in COPYING and not is_closed(parts[1])


def plans_of(word, parts, own):
    """The plans of the parts of an operator."""
    if word not in COPYING:
        return tuple([Plan(part, own) for part in parts])
    first = Plan(parts[0], own)
    return (first, Plan(parts[1], first.wide))
