"""Joint stands and ways of two plans, for callers that have checked what they pass.

`plans` is the pair of the plans everywhere. The clocks of both are counted together, those of the first plan first.
"""

from pushalike.base.words import are_integers, is_between
from pushalike.joint.rows import (
    cut_rows,
    is_rows,
    is_tight,
    later_rows,
    moved_rows,
    point_rows,
    risen_rows,
    zero_rows,
)
from pushalike.joint.sides import begun_sides, heard_sides
from pushalike.run.shapes import needs_of


def is_stand_of(plans, value):
    """Whether the value is a joint stand."""
    if not isinstance(value, tuple) or len(value) != 4:
        return False
    shape, other, classes, rows = value
    one, two = needs_of(plans[0], shape), needs_of(plans[1], other)
    if one is None or two is None:
        return False
    if not are_integers(classes, one[0] + two[0]) or classes != classes_of(classes):
        return False
    return are_stand_rows(rows, one[1] + two[1])


def classes_of(values):
    """The classes of values, numbered from 0 in the order in which they first occur."""
    numbers = {}
    for value in values:
        if value not in numbers:
            numbers[value] = len(numbers)
    return tuple([numbers[value] for value in values])


def are_stand_rows(value, clocks):
    """Whether the value is tight rows of nothing but readings that these clocks can have."""
    if not is_rows(value) or len(value) != len(clocks) + 1 or not is_tight(value):
        return False
    for index, (d, tied) in enumerate(clocks, 1):
        if value[index][0] >= d or value[0][index] > 0 or (tied and value[index][index - 1] > 0):
            return False
    return True


def tops_of(plans, shape, other):
    """The greatest reading of each clock of two states with these shapes."""
    clocks = needs_of(plans[0], shape)[1] + needs_of(plans[1], other)[1]
    return tuple([clock[0] - 1 for clock in clocks])


def stand_at(plans, state, other, rows):
    """The joint stand of two states and all to which waiting leads; rows have the readings at first."""
    values = state[1] + other[1]
    tops = tops_of(plans, state[0], other[0])
    return state[0], other[0], classes_of(values), risen_rows(rows, tops)


def begin_stand(plans):
    """The joint stand of the begin, and both begin lists."""
    (state, other), (told, others, more) = begun_sides(plans)
    return stand_at(plans, state, other, zero_rows(len(state[2] + other[2]))), told, others + more


def states_stand(plans, state, other):
    """The joint stand of two states and all to which waiting leads."""
    return stand_at(plans, state, other, point_rows(state[2] + other[2]))


def waiting_rows(plans, stand):
    """The rows of a joint stand and all to which waiting leads from it."""
    return risen_rows(stand[3], tops_of(plans, stand[0], stand[1]))


def new_class(stand):
    """The class of a value that is unlike all of a joint stand."""
    return max(stand[2], default=-1) + 1


def all_ways(plans, layout, stand):
    """All ways on from the joint stand: the events, then the moments, both ascending; the layout ascends, too."""
    classes = range(new_class(stand) + 1)
    events = [
        ("event", source, letter, number)
        for source in layout
        for letter in layout[source]
        for number in classes
    ]
    return events + [("moment", due) for due in due_sets(plans, stand)]


def due_sets(plans, stand):
    """The tuples of clocks that can be due together at a moment, ascending."""
    tops = tops_of(plans, stand[0], stand[1])
    found = [((), waiting_rows(plans, stand))]
    for index, top in enumerate(tops, 1):
        grown = []
        for due, rows in found:
            running = cut_rows(rows, index, 0, top - 1)
            if running is not None:
                grown.append((due, running))
            stopping = cut_rows(rows, 0, index, -top)
            if stopping is not None:
                grown.append((due + (index,), stopping))
        found = grown
    return sorted([due for due, _ in found if len(due) > 0])


def rows_before(plans, stand, due):
    """The rows of all from which one more step of time makes just these clocks due, or None."""
    rows = waiting_rows(plans, stand)
    for index, top in enumerate(tops_of(plans, stand[0], stand[1]), 1):
        rows = cut_rows(rows, 0, index, -top) if index in due else cut_rows(rows, index, 0, top - 1)
        if rows is None:
            return None
    return rows


def is_due_set(plans, stand, value):
    """Whether the value is an ascending tuple of clocks that can be due together."""
    many = len(stand[3]) - 1
    if not isinstance(value, tuple) or len(value) == 0:
        return False
    if not all([is_between(clock, 1, many) for clock in value]):
        return False
    if not all([value[k] < value[k + 1] for k in range(len(value) - 1)]):
        return False
    return rows_before(plans, stand, value) is not None


def after_event(plans, stand, event):
    """The joint stand to which an event `(source, letter, class)` leads, and both lists."""
    return after_cause(plans, stand, waiting_rows(plans, stand), event, ())


def after_moment(plans, stand, due):
    """The joint stand to which a moment leads at which these clocks are due, and both lists."""
    rows = later_rows(rows_before(plans, stand, due), 1)
    return after_cause(plans, stand, rows, None, due)


def after_cause(plans, stand, rows, event, due):
    """The joint stand to which a cause leads that happens at these rows, and both lists."""
    shape, other, classes, _ = stand
    many, clocks = needs_of(plans[0], shape)
    places = tuple(range(1, len(rows)))
    states = (shape, classes[:many], places[:len(clocks)]), (other, classes[many:], places[len(clocks):])
    (one, two), (told, others) = heard_sides(plans, states, event, due)
    return stand_at(plans, one, two, moved_rows(rows, one[2] + two[2])), told, others
