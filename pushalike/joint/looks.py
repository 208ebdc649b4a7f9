"""What is asked of a pair by all that look for papers or judge them; what is passed has been checked."""

from pushalike.base.words import is_between
from pushalike.errors import InvalidNumber, InvalidState
from pushalike.joint.stands import plans_of
from pushalike.joint.ways import after_event, after_moment, due_sets, new_class
from pushalike.run.shapes import is_state_of

MAX_LIMIT = 900


def check_start(plans, start):
    """Raises the error for what is neither None nor a tuple of two states."""
    if start is None:
        return
    if not isinstance(start, tuple) or len(start) != 2:
        raise InvalidState("this is no pair of states")
    if not is_state_of(plans[0], start[0]) or not is_state_of(plans[1], start[1]):
        raise InvalidState("this is no state of the pipeline")


def check_limit(limit):
    """Raises the error for what is no limit."""
    if not is_between(limit, 1, MAX_LIMIT):
        raise InvalidNumber(limit)


def first_stand(pair, start):
    """The joint stand of the begin, and whether the begin lists are parted; from a start on there are none."""
    if start is not None:
        return pair.stand(start[0], start[1]), False
    stand, told, others = pair.begin()
    return stand, pair.parted(told, others)


def moments_from(pair, stand):
    """The moments on from the joint stand."""
    return [("moment", due) for due in due_sets(plans_of(pair), stand)]


def events_from(pair, stand):
    """Events on from the joint stand, which show what all events do.

    At an event of a source that is not heard nothing happens, so one of these stands for all.
    """
    layout = pair.layout
    heard = [source for source in layout if source in pair.left.sources + pair.right.sources]
    classes = range(new_class(stand) + 1)
    found = [("event", source, letter, number) for source in heard for letter in layout[source] for number in classes]
    others = [source for source in layout if source not in heard]
    return found + [("event", source, layout[source][0], 0) for source in others[:1]]


def look(pair, stand, way):
    """The joint stand to which the way leads, and whether the lists are parted on it."""
    if way[0] == "event":
        after, told, others = after_event(plans_of(pair), stand, way[1:])
    else:
        after, told, others = after_moment(plans_of(pair), stand, way[1])
    return after, pair.parted(told, others)
