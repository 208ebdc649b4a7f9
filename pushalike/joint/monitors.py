"""Monitors: pipelines that hear what another one tells, and must never tell anything themselves."""

from pushalike.base.tapes import Tape
from pushalike.base.words import is_layout, is_list
from pushalike.errors import InvalidLayout, InvalidOperation, InvalidPipeline, InvalidTape, TooMany
from pushalike.joint.courses import Course, causes_over
from pushalike.joint.looks import check_limit, check_start
from pushalike.joint.searches import found_paper
from pushalike.joint.sides import begun_sides
from pushalike.joint.stands import Pair
from pushalike.joint.ways import all_ways
from pushalike.run.readings import BEGIN, MAX_CAUSES, news_of
from pushalike.tree.checks import clocks_of, is_sound, sources_of, told_widths
from pushalike.tree.forms import paths_of
from pushalike.tree.pipelines import Pipeline, is_tree, plan_of
from pushalike.tree.plans import Plan

# The begin of a monitor, ahead of that of the pipeline.
EARLY = (0, -2)


class Monitor:
    """A monitor; it never changes."""

    def __init__(self, tree):
        if not is_tree(tree) or len(told_widths(tree)) > 1 or not is_sound(tree):
            raise InvalidPipeline("this is not the tree of a monitor")
        self._tree = tree
        self._plan = Plan(tree, None)
        self._sources = sources_of(tree)
        self._clocks = clocks_of(tree)
        self._heard = told_widths(tree)
        self._paths = paths_of(tree)

    @classmethod
    def of(cls, tree):
        """The monitor with this tree."""
        return cls(tree)

    @property
    def tree(self):
        """The tree."""
        return self._tree

    @property
    def width(self):
        """The number of values in each output."""
        return self._plan.wide

    @property
    def sources(self):
        """The names of the sources, ascending."""
        return self._sources

    @property
    def clocks(self):
        """The number of clocks."""
        return self._clocks

    @property
    def told(self):
        """The width of the pipelines that it hears, or None if it hears none."""
        return self._heard[0] if len(self._heard) > 0 else None

    def __len__(self):
        return len(self._paths)

    def __eq__(self, other):
        return isinstance(other, Monitor) and self._tree == other._tree

    def __str__(self):
        return f"monitor of {len(self._paths)} parts"


class Watch(Pair):
    """A pipeline and a monitor beside it; it never changes."""

    def __init__(self, pipeline, monitor, layout):
        if not isinstance(pipeline, Pipeline) or not isinstance(monitor, Monitor):
            raise InvalidPipeline("this is no pipeline, or no monitor")
        if not is_layout(layout):
            raise InvalidLayout("this is no layout")
        check_width(pipeline, monitor)
        if not all([source in layout for source in pipeline.sources + monitor.sources]):
            raise InvalidOperation("a source is not in the layout")
        self._left = pipeline
        self._right = monitor
        self._layout = {name: layout[name] for name in sorted(layout)}
        self._plans = (plan_of(pipeline), monitor._plan)

    @property
    def left(self):
        """The pipeline."""
        return self._left

    @property
    def right(self):
        """The monitor."""
        return self._right

    @property
    def layout(self):
        """The layout."""
        return {name: self._layout[name] for name in self._layout}

    def __eq__(self, other):
        if not isinstance(other, Watch):
            return False
        return self._left == other._left and self._right == other._right and self._layout == other._layout

    def __str__(self):
        return f"watch of {len(self._left)} and {len(self._right)} parts"

    def is_stand(self, value):
        """Whether the value is a joint stand, reached or not."""
        return super().is_stand(value)

    def begin(self):
        """The joint stand of the begin, and both begin lists; that of the monitor goes on with what it tells then."""
        return super().begin()

    def stand(self, state, other):
        """The joint stand of these two states and all to which waiting leads."""
        return super().stand(state, other)

    def has(self, stand, state, other):
        """Whether the joint stand has these two states."""
        return super().has(stand, state, other)

    def ways(self, stand):
        """All ways on from the joint stand: the events, then the moments, both ascending."""
        self._check_stand(stand)
        for way in all_ways(self._plans, self._layout, stand):
            yield way

    def follow(self, stand, way):
        """The joint stand to which the way leads, and both lists; the monitor hears that of the pipeline."""
        return super().follow(stand, way)

    def within(self, stand, other):
        """Whether the first joint stand is within the second one."""
        return super().within(stand, other)

    def parted(self, first, second):
        """Whether the second list, which the monitor tells, has an output."""
        if not is_list(first) or not is_list(second):
            raise InvalidOperation("this is no list")
        return len(second) > 0 and second[0] != "end"


def observe(pipeline, monitor, tape):
    """The stamps and lists of all causes on the tape at which the monitor tells something."""
    if not isinstance(pipeline, Pipeline) or not isinstance(monitor, Monitor):
        raise InvalidPipeline("this is no pipeline, or no monitor")
    if not isinstance(tape, Tape):
        raise InvalidTape("this is no tape")
    check_width(pipeline, monitor)
    plans = (plan_of(pipeline), monitor._plan)
    states, (_, others, more) = begun_sides(plans)
    causes = causes_over(Course(plans, states), tape, MAX_CAUSES - 1)
    if causes is None:
        raise TooMany(MAX_CAUSES)
    pairs = [pair for stamp, _, told in causes for pair in news_of(stamp, told)]
    return news_of(EARLY, others) + news_of(BEGIN, more) + tuple(pairs)


def keeps(pipeline, monitor, layout, *, start=None, limit=500):
    """Whether the monitor tells no output beside the pipeline on any tape over the layout."""
    if not isinstance(pipeline, Pipeline) or not isinstance(monitor, Monitor):
        raise InvalidPipeline("this is no pipeline, or no monitor")
    if not is_layout(layout):
        raise InvalidLayout("this is no layout")
    check_start((plan_of(pipeline), monitor._plan), start)
    check_limit(limit)
    return found_paper(Watch(pipeline, monitor, layout), start, limit)[0] == "list"


def check_width(pipeline, monitor):
    """Raises the error for a monitor of pipelines of another width."""
    if monitor.told is not None and monitor.told != pipeline.width:
        raise InvalidOperation("the monitor hears pipelines of another width")
