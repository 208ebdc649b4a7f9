"""The states of pipelines, and what leads from one to the next."""

from pushalike.base.words import is_event, is_integer
from pushalike.errors import InvalidNumber, InvalidOperation, InvalidPipeline, InvalidState, InvalidTape
from pushalike.run.shapes import is_state_of
from pushalike.run.steps import at_event, at_moment, begun, later, time_left
from pushalike.tree.pipelines import Pipeline, plan_of


def is_state(pipeline, value):
    """Whether the value is a state of the pipeline, reached or not."""
    return is_state_of(checked_plan(pipeline), value)


def begin(pipeline):
    """The state after the begin, and the begin list."""
    return begun(checked_plan(pipeline))


def event(pipeline, state, source, letter, value):
    """The state after an event, and the list."""
    plan = running_plan(pipeline, state)
    # Only the time of an event is not passed, and each time is right.
    if not is_event((0, source, letter, value)):
        raise InvalidTape("there is no such event")
    return at_event(plan, state, (source, letter, value))


def due_in(pipeline, state):
    """How long it is until the next moment, or None if no clock is running."""
    return time_left(running_plan(pipeline, state), state)


def waited(pipeline, state, time):
    """The state after so much time."""
    left = time_left(running_plan(pipeline, state), state)
    if not is_integer(time) or time < 0 or (left is not None and time >= left):
        raise InvalidNumber(time)
    return later(state, time)


def moment(pipeline, state):
    """The state after the next moment, and its list."""
    plan = running_plan(pipeline, state)
    if len(state[2]) == 0:
        raise InvalidOperation("no clock is running")
    return at_moment(plan, state)


def checked_plan(pipeline):
    """The plan of what must be a pipeline."""
    if not isinstance(pipeline, Pipeline):
        raise InvalidPipeline("this is no pipeline")
    return plan_of(pipeline)


def running_plan(pipeline, state):
    """The plan of what must be a pipeline in one of its states."""
    plan = checked_plan(pipeline)
    if not is_state_of(plan, state):
        raise InvalidState("this is no state of the pipeline")
    return plan
