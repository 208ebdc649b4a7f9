"""Which trees are pipelines, beyond their form."""

from pushalike.run.parts import begin_part
from pushalike.tree.forms import all_parts, is_closed
from pushalike.tree.plans import Plan
from pushalike.tree.widths import width_of

MAX_CLOCKS = 5


def is_sound(tree):
    """Whether a tree has all that a pipeline needs, except that it may have leaves told."""
    if width_of(tree, None) is None or clocks_of(tree) > MAX_CLOCKS:
        return False
    return all([can_begin_anew(part[1]) for part in all_parts(tree) if part[0] == "again"])


def can_begin_anew(tree):
    """Whether a tree may be the part of an again."""
    return is_closed(tree) and begin_part(Plan(tree, None), None)[0] is not None


def told_widths(tree):
    """The widths of the leaves told of a tree, ascending."""
    return tuple(sorted({part[1] for part in all_parts(tree) if part[0] == "told"}))


def clocks_of(tree):
    """The number of clocks of a tree."""
    return sum([own_clocks(part) for part in all_parts(tree)])


def own_clocks(tree):
    """The number of clocks of a part without the parts under it."""
    if tree[0] == "late":
        return tree[2]
    return 1 if tree[0] in ("after", "every", "quiet", "spaced", "else") else 0


def sources_of(tree):
    """The names of the sources of a tree, ascending."""
    return tuple(sorted({part[1] for part in all_parts(tree) if part[0] == "source"}))
