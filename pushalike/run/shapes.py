"""The shapes of states, and how states become nodes (see parts) and nodes states.

The clocks of a shape are told as pairs: the number at which the clock is due, and whether its reading is never above
that of the clock before it, as with the outputs that are on the way in a late.
"""

from pushalike.base.words import are_integers, is_between, is_letter
from pushalike.tree.forms import COPYING, MAX_STATE

OVER = ("over", (), ())
ENDLESS = ("source", "never", "told", "every", "again")
# The operators that keep one output at the most.
KEEPING = ("quiet", "at", "switch", "busy")
# How many items of its own an operator has in a shape, where it has any.
OWN_ITEMS = {
    "fold": 1,
    "first": 1,
    "changes": 1,
    "pairs": 1,
    "spaced": 1,
    "quiet": 1,
    "late": 1,
    "&": 2,
    "at": 1,
    "then": 1,
    "else": 1,
}


def is_state_of(plan, value):
    """Whether the value is a state of the pipeline with this plan."""
    if not isinstance(value, tuple) or len(value) != 3:
        return False
    shape, values, clocks = value
    found = needs_of(plan, shape)
    if found is None:
        return False
    return are_integers(values, found[0]) and are_readings(clocks, found[1])


def are_readings(value, clocks):
    """Whether the value is the readings of these clocks."""
    if not are_integers(value, len(clocks)):
        return False
    for index, (d, tied) in enumerate(clocks):
        if not 0 <= value[index] < d or (tied and value[index] > value[index - 1]):
            return False
    return True


def needs_of(plan, shape):
    """The number of values and the clocks of a state with this shape, or None if it is no shape of the part."""
    if isinstance(shape, str):
        return needs_of_word(plan, shape)
    opened = opened_shape(plan, shape)
    if opened is None or not is_own(plan, opened[0]):
        return None
    own, shapes = opened
    if not goes_on(plan.word, own, [inner == "over" for inner in shapes]):
        return None
    many, clocks = own_values(plan, own), own_clocks(plan, own)
    for part, inner in zip(begun_parts(plan, own), shapes):
        needs = needs_of(part, inner)
        if needs is None:
            return None
        many, clocks = many + needs[0], clocks + needs[1]
    return many, clocks


def needs_of_word(plan, shape):
    """As `needs_of`, for a shape that is one word."""
    if shape == "over":
        return None if plan.word in ENDLESS else (0, ())
    if shape != "on" or len(plan.parts) > 0 or plan.word in ("one", "it"):
        return None
    return 0, own_clocks(plan, ())


def opened_shape(plan, shape):
    """The operator's own items of a shape, and the shapes of its parts; None if it is not built like its shapes."""
    if not isinstance(shape, tuple) or len(plan.parts) == 0:
        return None
    if plan.word in COPYING:
        return opened_copy(shape)
    many = OWN_ITEMS.get(plan.word, 0)
    followed = 1 if plan.word in ("then", "else") else len(plan.parts)
    if len(shape) != many + followed:
        return None
    return shape[:many], shape[many:]


def opened_copy(shape):
    """As `opened_shape`, of a switch or a busy: its own item is the letter of the copy, if one is running."""
    if len(shape) != 2:
        return None
    part, copy = shape
    if copy is None:
        return (), (part,)
    if not isinstance(copy, tuple) or len(copy) != 2:
        return None
    return copy[:1], (part, copy[1])


def closed_shape(plan, own, shapes):
    """The shape of an operator with these items of its own and these shapes of its parts."""
    if plan.word not in COPYING:
        return own + shapes
    return (shapes[0], None) if own == () else (shapes[0], own + shapes[1:])


def begun_parts(plan, own):
    """The plans of the parts whose shapes stand in a shape with these items of its own."""
    if plan.word in ("then", "else"):
        return plan.parts[own[0] - 1:own[0]]
    return plan.parts[:1] if plan.word in COPYING and own == () else plan.parts


def is_own(plan, own):
    """Whether an operator may have these items of its own, which are as many as it has."""
    word = plan.word
    if word == "fold":
        return is_between(own[0], 0, MAX_STATE)
    if word == "first":
        return is_between(own[0], 1, plan.terms[0])
    if word in ("then", "else"):
        return is_between(own[0], 1, 2)
    if word in ("quiet", "at"):
        return own[0] is None or is_letter(own[0])
    if word == "late":
        return is_row_of_letters(own[0], plan.terms[1])
    if word in COPYING:
        return own == () or (is_letter(own[0]) if plan.copies_it else own[0] is None)
    return all([is_between(item, 0, 1) for item in own])


def is_row_of_letters(value, most):
    """Whether the value is a tuple of letters, at most so many."""
    return isinstance(value, tuple) and len(value) <= most and all([is_letter(letter) for letter in value])


def goes_on(word, own, over):
    """Whether an operator with these items of its own goes on; `over` tells which of its parts are over."""
    if word == "late":
        return not over[0] or own != ((),)
    if word in ("+", "&"):
        return not (over[0] and over[1])
    # An until ends with its first part. Of two parts of another operator it is the last one that must go on.
    return not over[0] if word == "until" else not over[-1]


def own_values(plan, own):
    """The number of values that an operator keeps itself."""
    word = plan.word
    if word == "&":
        return own[0] * plan.parts[0].wide + own[1] * plan.parts[1].wide
    if word in ("changes", "pairs"):
        many = own[0]
    elif word == "late":
        many = len(own[0])
    else:
        many = 1 if word in KEEPING and own not in ((), (None,)) else 0
    return many * plan.parts[0].wide if many > 0 else 0


def own_clocks(plan, own):
    """The clocks that an operator or a leaf has running itself."""
    word = plan.word
    many = 0
    if word in ("after", "every") or (word == "else" and own == (1,)) or (word == "quiet" and own != (None,)):
        many = 1
    elif word == "spaced":
        many = own[0]
    elif word == "late":
        many = len(own[0])
    return tuple([(plan.terms[0], index > 0) for index in range(many)])


def node_of(plan, state):
    """The node of a part in this state."""
    return opened_node(plan, state[0], state[1], state[2])[0]


def opened_node(plan, shape, values, clocks):
    """The node of a part with this shape, to which the first of these values and clocks belong, and the others."""
    if shape == "over":
        return None, values, clocks
    own, shapes = ((), ()) if shape == "on" else opened_shape(plan, shape)
    many, running = own_values(plan, own), len(own_clocks(plan, own))
    kept = (own, values[:many], clocks[:running])
    values, clocks = values[many:], clocks[running:]
    nodes = []
    for part, inner in zip(begun_parts(plan, own), shapes):
        node, values, clocks = opened_node(part, inner, values, clocks)
        nodes.append(node)
    return kept + (tuple(nodes),), values, clocks


def state_of(plan, node):
    """The state of a part with this node."""
    if node is None:
        return OVER
    own, values, clocks, nodes = node
    if len(plan.parts) == 0:
        return "on", values, clocks
    states = [state_of(part, inner) for part, inner in zip(begun_parts(plan, own), nodes)]
    for _, others, readings in states:
        values, clocks = values + others, clocks + readings
    return closed_shape(plan, own, tuple([state[0] for state in states])), values, clocks
