"""Pipelines read over tapes."""

from pushalike.base.tapes import Tape
from pushalike.errors import InvalidPipeline, InvalidTape, TooMany
from pushalike.run.steps import at_event, at_moment, begun, later, time_left
from pushalike.tree.pipelines import Pipeline, plan_of

MAX_CAUSES = 1000
BEGIN = (0, -1)


def read(pipeline, tape):
    """The stamps and lists of all causes at which the pipeline tells something."""
    check_arguments((pipeline,), tape)
    return told_over(plan_of(pipeline), tape)


def difference(one, other, tape):
    """The first stamp at which two pipelines tell different lists, and these, or None."""
    check_arguments((one, other), tape)
    told, others = told_over(plan_of(one), tape), told_over(plan_of(other), tape)
    lists, other_lists = dict(told), dict(others)
    for stamp in sorted([pair[0] for pair in told + others]):
        if lists.get(stamp, ()) != other_lists.get(stamp, ()):
            return stamp, lists.get(stamp, ()), other_lists.get(stamp, ())
    return None


def check_arguments(pipelines, tape):
    """Raises the error for what is no pipeline, then for what is no tape."""
    if not all([isinstance(pipeline, Pipeline) for pipeline in pipelines]):
        raise InvalidPipeline("this is no pipeline")
    if not isinstance(tape, Tape):
        raise InvalidTape("this is no tape")


def told_over(plan, tape):
    """The stamps and lists of all causes on a tape at which something is told."""
    return run_over(plan, tape)[1]


def run_over(plan, tape):
    """The state after a tape, and the stamps and lists of all causes at which something is told."""
    # The begin and the events are causes whatever is told, so this many moments are left.
    room = MAX_CAUSES - 1 - len(tape)
    if room < 0:
        raise TooMany(MAX_CAUSES)
    state, told = begun(plan)
    pairs = news_of(BEGIN, told)
    now = 0
    for stamp, (time, source, letter, value) in zip(tape.stamps(), tape.events):
        state, news, many = passed(plan, state, now, time, room)
        room = room - many
        now = time
        state, told = at_event(plan, state, (source, letter, value))
        pairs = pairs + news + news_of(stamp, told)
    state, news, _ = passed(plan, state, now, tape.last, room)
    return state, pairs + news


def news_of(stamp, told):
    """The pair of a stamp and a list in a tuple, which is empty if nothing is told."""
    return ((stamp, told),) if len(told) > 0 else ()


def passed(plan, state, now, end, room):
    """The state when time has passed from `now` to `end`, the stamps and lists of moments on the way, their number.

    The moments that tell nothing are left out of the stamps and lists, but counted: `TooMany` for more than `room`.
    """
    news = []
    many = 0
    left = time_left(plan, state)
    while left is not None and now + left <= end:
        if many == room:
            raise TooMany(MAX_CAUSES)
        many += 1
        now = now + left
        state, told = at_moment(plan, state)
        if len(told) > 0:
            news.append(((now, 0), told))
        left = time_left(plan, state)
    return later(state, end - now), tuple(news), many
