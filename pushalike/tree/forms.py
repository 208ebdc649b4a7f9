"""The form of trees: arguments, parts and paths."""

from pushalike.base.arguments import ARGUMENTS
from pushalike.base.words import is_between, is_integer, is_letter, is_letters, is_name

MAX_PARTS = 12
MAX_PLACES = 4
MAX_PLACE = 3
MAX_PAIRS = 20
MAX_STATE = 8
# The operators whose second part is a pattern.
COPYING = ("switch", "busy")
RANGES = {"delay": (1, 10 ** 40 - 1), "count": (1, 9), "room": (1, 3), "width": (0, 4)}


def has_form(value):
    """Whether the value is a part of a tree, whatever stands in the place of the parts under it."""
    if not isinstance(value, tuple) or len(value) == 0:
        return False
    if not isinstance(value[0], str) or value[0] not in ARGUMENTS:
        return False
    kinds = ARGUMENTS[value[0]]
    if len(value) != 1 + len(kinds):
        return False
    return all([kinds[k] == "part" or is_argument(value[k + 1], kinds[k]) for k in range(len(kinds))])


def is_argument(value, kind):
    """Whether the value is an argument of this kind, a part excepted."""
    if kind == "name":
        return is_name(value)
    if kind == "letter":
        return is_letter(value)
    if kind == "letters":
        return is_letters(value)
    if kind == "places":
        return is_places(value)
    if kind == "table":
        return is_table(value)
    least, most = RANGES[kind]
    return is_between(value, least, most)


def is_places(value):
    """Whether the value is what stands in a pick, for parts of some width."""
    if not isinstance(value, tuple) or len(value) > MAX_PLACES:
        return False
    return all([is_between(place, 0, MAX_PLACE) for place in value])


def is_table(value):
    """Whether the value is the table of a fold."""
    if not isinstance(value, tuple) or not 1 <= len(value) <= MAX_PAIRS:
        return False
    if not all([is_table_pair(pair) for pair in value]):
        return False
    # Where the first parts ascend, the pairs ascend and their first parts are unlike.
    return all([value[k][0] < value[k + 1][0] for k in range(len(value) - 1)])


def is_table_pair(value):
    """Whether the value is `((state, letter), (state, other))`."""
    if not isinstance(value, tuple) or len(value) != 2:
        return False
    if not all([isinstance(half, tuple) and len(half) == 2 for half in value]):
        return False
    (before, letter), (after, other) = value
    if not is_between(before, 0, MAX_STATE) or not is_between(after, 0, MAX_STATE):
        return False
    return is_letter(letter) and (is_letter(other) or other == "")


def is_path(value):
    """Whether the value is a tuple of integers, as each path is."""
    return isinstance(value, tuple) and all([is_integer(index) for index in value])


def parts_of(tree):
    """The parts directly under an operator, from left to right."""
    kinds = ARGUMENTS[tree[0]]
    return tuple([tree[k + 1] for k in range(len(kinds)) if kinds[k] == "part"])


def paths_of(tree):
    """All paths, each before those that continue it, parts from left to right."""
    found = [()]
    for index, part in enumerate(parts_of(tree)):
        for path in paths_of(part):
            found.append((index,) + path)
    return tuple(found)


def part_at(tree, path):
    """The tree at a path that exists."""
    part = tree
    for index in path:
        part = parts_of(part)[index]
    return part


def with_part(tree, path, other):
    """The tree with another one at a path that exists."""
    if len(path) == 0:
        return other
    # The parts are the last items of a tree.
    at = len(tree) - len(parts_of(tree)) + path[0]
    return tree[:at] + (with_part(tree[at], path[1:], other),) + tree[at + 1:]


def all_parts(tree):
    """The tree and all parts under it, in the order of the paths."""
    return tuple([part_at(tree, path) for path in paths_of(tree)])


def is_closed(tree):
    """Whether each ("it",) of a tree stands in a pattern of the tree itself."""
    if tree[0] == "it":
        return False
    # A pattern is the place of its own ("it",), but the part before it is not.
    parts = parts_of(tree)[:1] if tree[0] in COPYING else parts_of(tree)
    return all([is_closed(part) for part in parts])
