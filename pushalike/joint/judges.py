"""Whether values are papers of a pair."""

from pushalike.base.tapes import Tape, is_row_of_events
from pushalike.base.words import is_integer
from pushalike.joint.courses import Course, causes_over
from pushalike.joint.looks import events_from, first_stand, look, moments_from
from pushalike.joint.rows import are_within
from pushalike.joint.sides import begun_sides
from pushalike.joint.stands import plans_of
from pushalike.run.readings import MAX_CAUSES


def is_list_paper(pair, value, start):
    """Whether the value is a list paper."""
    if not isinstance(value, tuple) or len(value) != 2 or value[0] != "list":
        return False
    stands = value[1]
    if not are_stands(pair, stands) or len({repr(stand) for stand in stands}) < len(stands):
        return False
    cover = cover_of((stands,))
    stand, parted = first_stand(pair, start)
    if parted or not is_covered(cover, stand, 0):
        return False
    return all([leads_on(pair, cover, stand, 0) and events_lead_on(pair, cover, stand, 0) for stand in stands])


def is_row_paper(pair, value, start):
    """Whether the value is a row paper."""
    if not isinstance(value, tuple) or len(value) != 4 or value[0] != "row":
        return False
    _, events, last, rounds = value
    if not is_row_of_events(events) or not is_integer(last):
        return False
    if last < max([event[0] for event in events], default=0):
        return False
    tape = Tape(events, last=last)
    return tape.fits(pair.layout) and parts_at_last(pair, tape, start) and are_rounds(pair, rounds, len(tape), start)


def are_stands(pair, value):
    """Whether the value is a tuple of joint stands."""
    return isinstance(value, tuple) and all([pair.is_stand(stand) for stand in value])


def parts_at_last(pair, tape, start):
    """Whether the lists are parted at the last cause on a tape, at its last time, and at no earlier cause."""
    plans = plans_of(pair)
    parted = first_stand(pair, start)[1]
    if parted:
        # Then the begin must be the last cause, and each moment is later than the begin.
        return len(tape) == 0 and tape.last == 0
    course = Course(plans, begun_sides(plans)[0] if start is None else start)
    causes = causes_over(course, tape, MAX_CAUSES - 1 if start is None else MAX_CAUSES)
    if causes is None or len(causes) == 0 or causes[-1][0][0] != tape.last:
        return False
    parting = [pair.parted(told, others) for _, told, others in causes]
    return parting[-1] and not any(parting[:-1])


def are_rounds(pair, rounds, many, start):
    """Whether the value is rounds which show that no tape with fewer than so many events parts the pair."""
    if not isinstance(rounds, tuple) or len(rounds) != many:
        return False
    if not all([are_stands(pair, stands) for stands in rounds]):
        return False
    cover = cover_of(rounds)
    if many > 0 and not is_covered(cover, first_stand(pair, start)[0], 0):
        return False
    for number, stands in enumerate(rounds):
        if not all([leads_on(pair, cover, stand, number) for stand in stands]):
            return False
        if number < many - 1 and not all([events_lead_on(pair, cover, stand, number + 1) for stand in stands]):
            return False
    return True


def cover_of(rounds):
    """For the text of shapes and classes the numbers of the rounds that have such stands, and their rows."""
    found = {}
    for number, stands in enumerate(rounds):
        for stand in stands:
            found.setdefault(repr(stand[:3]), []).append((number, stand[3]))
    return found


def is_covered(cover, stand, most):
    """Whether the joint stand is within one of the rounds 0 to `most`."""
    near = cover.get(repr(stand[:3]), [])
    return any([number <= most and are_within(stand[3], rows) for number, rows in near])


def leads_on(pair, cover, stand, most):
    """Whether on no moment the lists are parted, and each leads into one of the rounds 0 to `most`."""
    return are_covered(pair, cover, stand, moments_from(pair, stand), most)


def events_lead_on(pair, cover, stand, most):
    """As `leads_on`, for events."""
    return are_covered(pair, cover, stand, events_from(pair, stand), most)


def are_covered(pair, cover, stand, ways, most):
    """Whether on none of these ways the lists are parted, and each leads into one of the rounds 0 to `most`."""
    for way in ways:
        after, parted = look(pair, stand, way)
        if parted or not is_covered(cover, after, most):
            return False
    return True
