"""Papers: what shows that two pipelines are alike, or parts them."""

from pushalike.base.tapes import Tape
from pushalike.base.words import is_layout
from pushalike.errors import InvalidLayout, InvalidOperation, InvalidPaper, InvalidPipeline, InvalidTape, TooMany
from pushalike.joint.courses import Course, causes_over, earliest_times
from pushalike.joint.judges import is_list_paper, is_row_paper
from pushalike.joint.looks import check_limit, check_start
from pushalike.joint.monitors import Watch
from pushalike.joint.searches import found_paper
from pushalike.joint.sides import begun_sides
from pushalike.joint.stands import Pair, plans_of
from pushalike.joint.turns import turned_paper
from pushalike.run.readings import MAX_CAUSES
from pushalike.tree.pipelines import Pipeline, plan_of


def find_paper(pair, *, start=None, limit=500):
    """A list paper of the pair if there is one, otherwise a row paper."""
    check_pair(pair)
    check_start(plans_of(pair), start)
    check_limit(limit)
    return found_paper(pair, start, limit)


def is_paper(pair, value, *, start=None):
    """Whether the value is a paper of the pair."""
    check_pair(pair)
    check_start(plans_of(pair), start)
    return is_list_paper(pair, value, start) or is_row_paper(pair, value, start)


def are_alike(one, other, layout, *, start=None, limit=500):
    """Whether two pipelines tell the same lists on all tapes over the layout."""
    if not isinstance(one, Pipeline) or not isinstance(other, Pipeline):
        raise InvalidPipeline("this is no pipeline")
    if not is_layout(layout):
        raise InvalidLayout("this is no layout")
    check_start((plan_of(one), plan_of(other)), start)
    check_limit(limit)
    return found_paper(Pair(one, other, layout), start, limit)[0] == "list"


def turned(pair, paper):
    """The paper for the same pipelines in the other order."""
    check_pair(pair)
    if isinstance(pair, Watch):
        raise InvalidOperation("a monitor has its place")
    if not is_paper(pair, paper):
        raise InvalidPaper("this is no paper of the pair")
    return turned_paper(plans_of(pair), paper)


def hastened(pair, tape):
    """The tape on which the same ways follow each other as early as possible."""
    check_pair(pair)
    if not isinstance(tape, Tape) or not tape.fits(pair.layout):
        raise InvalidTape("this is no tape over the layout")
    plans = plans_of(pair)
    course = Course(plans, begun_sides(plans)[0])
    causes = causes_over(course, tape, MAX_CAUSES - 1)
    if causes is None:
        raise TooMany(MAX_CAUSES)
    times = earliest_times(course.demands)
    places = [number for number, cause in enumerate(causes, 1) if cause[0][1] > 0]
    events = [(times[number],) + event[1:] for number, event in zip(places, tape.events)]
    return Tape(tuple(events), last=times[-1])


def check_pair(pair):
    """Raises the error for what is no pair."""
    if not isinstance(pair, Pair):
        raise InvalidOperation("this is no pair")
