"""Joint stands and ways counted one by one: over all readings of small clocks, by the functions of states alone."""

from itertools import product

from pushalike.run.states import due_in, event, moment, waited
from tests.shapes import letters_as_a, shapes

# Each class stands for this value.
FIRST, STEP = 100, 7


def needs(pipeline, shape):
    """The number of values and the clocks of a state of the pipeline with this shape."""
    known = {found: (many, [d for d, _ in clocks]) for found, many, clocks in shapes(pipeline.tree)}
    return known[letters_as_a(shape)]


def classes(values):
    first = []
    for value in values:
        if value not in first:
            first.append(value)
    return tuple(first.index(value) for value in values)


def pairs_of(pair, stand):
    """All pairs of states that a joint stand has, with one value for each class."""
    (many, ds), (_, others) = needs(pair.left, stand[0]), needs(pair.right, stand[1])
    values = tuple(FIRST + STEP * number for number in stand[2])
    found = []
    for point in product(*[range(d) for d in ds + others]):
        readings = (0,) + point
        if all(one - other <= stand[3][i][j] for i, one in enumerate(readings) for j, other in enumerate(readings)):
            found.append(((stand[0], values[:many], point[:len(ds)]), (stand[1], values[many:], point[len(ds):])))
    return found


def time_left(pair, states):
    times = [time for time in (due_in(pair.left, states[0]), due_in(pair.right, states[1])) if time is not None]
    return min(times, default=None)


def waits(pair, many):
    """All pairs of states to which waiting leads from these."""
    found = {}
    for states in many:
        left = time_left(pair, states)
        for time in range(1 if left is None else left):
            found[waited(pair.left, states[0], time), waited(pair.right, states[1], time)] = True
    return list(found)


def least(many):
    """The least joint stand that has all these pairs of states, which must have one pair of shapes and one of classes."""
    ends = {(one[0], other[0], classes(one[1] + other[1])) for one, other in many}
    assert len(ends) == 1, ends
    points = [(0,) + one[2] + other[2] for one, other in many]
    size = range(len(points[0]))
    rows = tuple(tuple(max(point[i] - point[j] for point in points) for j in size) for i in size)
    return ends.pop() + (rows,)


def step(pipeline, state, time):
    """The state of one pipeline when one step of time passes, and its list."""
    if due_in(pipeline, state) == time:
        return moment(pipeline, state)
    return waited(pipeline, state, time), ()


def due_clocks(pair, states):
    """The clocks that are due after one more step of time, counted from 1."""
    ds = needs(pair.left, states[0][0])[1] + needs(pair.right, states[1][0])[1]
    readings = states[0][2] + states[1][2]
    return tuple(k + 1 for k in range(len(ds)) if readings[k] + 1 == ds[k])


def in_classes(told):
    return tuple(item if item == "end" else (item[0], tuple((value - FIRST) // STEP for value in item[1])) for item in told)


def ways(pair, stand):
    """All ways on from a joint stand, each with what `follow` must return."""
    found = {}
    resting = waits(pair, pairs_of(pair, stand))
    news = len(set(stand[2]))
    for source in sorted(pair.layout):
        for letter in pair.layout[source]:
            for number in range(news + 1):
                happened = source, letter, FIRST + STEP * number
                ends = [(event(pair.left, one, *happened), event(pair.right, other, *happened)) for one, other in resting]
                found["event", source, letter, number] = answer(pair, ends)
    moments = {}
    for states in resting:
        due = due_clocks(pair, states)
        if due:
            moments.setdefault(due, []).append((step(pair.left, states[0], 1), step(pair.right, states[1], 1)))
    for due in sorted(moments):
        found["moment", due] = answer(pair, moments[due])
    return found


def answer(pair, ends):
    """The triple of `follow` for these ends, pairs of a state and a list for each pipeline."""
    lists = {(one[1], other[1]) for one, other in ends}
    assert len(lists) == 1, lists
    told, others = lists.pop()
    return least(waits(pair, [(one[0], other[0]) for one, other in ends])), in_classes(told), in_classes(others)


def small(pair, stand, most=250):
    """Whether the readings of a joint stand can be counted in a short time."""
    size = 1
    for d in needs(pair.left, stand[0])[1] + needs(pair.right, stand[1])[1]:
        size *= d
    return size <= most
