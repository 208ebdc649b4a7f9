"""What a pipeline does in a state, for callers that have checked what they pass.

Where nothing else is said, a state has readings. The places of clocks are what stands for them in a node: the places
that they had among the clocks before, counted from 1, and 0 for a clock that has just begun.
"""

from pushalike.run.parts import begin_part, hear_part
from pushalike.run.shapes import OVER, needs_of, node_of, state_of


def begun(plan):
    """The state after the begin, and the begin list. All clocks have just begun."""
    node, outputs = begin_part(plan, None)
    return state_of(plan, node), told_list(outputs, node is None)


def heard(plan, state, event, due, beside=()):
    """The state after a cause, and the list; both states have the places of clocks in the place of readings.

    `event` is `(source, letter, value)`, or None if the cause is no event, `due` are the places of the clocks that
    are due, and `beside` is the list that a pipeline tells at this cause, beside which a monitor runs.
    """
    if state == OVER:
        return state, ()
    told = tuple([output for output in beside if output != "end"])
    node, outputs = hear_part(plan, node_of(plan, state), (event, due, told), None)
    return state_of(plan, node), told_list(outputs, node is None)


def told_list(outputs, over):
    """The list of these outputs, and of the end if there is one."""
    return outputs + ("end",) if over else outputs


def at_event(plan, state, event):
    """The state after the event `(source, letter, value)`, and the list."""
    return at_cause(plan, state, event, ())


def at_cause(plan, state, event, due):
    """As `heard`, but with readings. A clock that is due must not be asked for its reading afterwards."""
    shape, values, readings = state
    places = tuple(range(1, len(readings) + 1))
    (shape, values, places), told = heard(plan, (shape, values, places), event, due)
    return (shape, values, tuple([0 if place == 0 else readings[place - 1] for place in places])), told


def time_left(plan, state):
    """How long it is until the next moment, or None if no clock is running."""
    left = [clock[0] - reading for clock, reading in zip(needs_of(plan, state[0])[1], state[2])]
    return min(left, default=None)


def later(state, time):
    """The state after so much time, in which nothing is due."""
    shape, values, readings = state
    return shape, values, tuple([reading + time for reading in readings])


def at_moment(plan, state):
    """The state after the next moment, and its list. A clock must be running."""
    left = time_left(plan, state)
    clocks = needs_of(plan, state[0])[1]
    now = later(state, left)
    due = tuple([index + 1 for index, clock in enumerate(clocks) if now[2][index] == clock[0]])
    return at_cause(plan, now, None, due)
