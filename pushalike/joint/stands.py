"""Two pipelines side by side, and their joint stands."""

from pushalike.base.words import is_between, is_layout, is_list
from pushalike.errors import InvalidLayout, InvalidOperation, InvalidPipeline, InvalidStand, InvalidState
from pushalike.joint.rows import are_within, holds
from pushalike.joint.ways import (
    after_event,
    after_moment,
    all_ways,
    begin_stand,
    classes_of,
    is_due_set,
    is_stand_of,
    new_class,
    states_stand,
)
from pushalike.run.shapes import is_state_of
from pushalike.tree.pipelines import Pipeline, plan_of


class Pair:
    """Two pipelines side by side; it never changes."""

    def __init__(self, one, other, layout):
        if not isinstance(one, Pipeline) or not isinstance(other, Pipeline):
            raise InvalidPipeline("this is no pipeline")
        if not is_layout(layout):
            raise InvalidLayout("this is no layout")
        if one.width != other.width or not all([source in layout for source in one.sources + other.sources]):
            raise InvalidOperation("these cannot be compared for the layout")
        self._left = one
        self._right = other
        self._layout = {name: layout[name] for name in sorted(layout)}
        self._plans = (plan_of(one), plan_of(other))

    @property
    def left(self):
        """The first pipeline."""
        return self._left

    @property
    def right(self):
        """The second pipeline."""
        return self._right

    @property
    def layout(self):
        """The layout."""
        return {name: self._layout[name] for name in self._layout}

    def __eq__(self, other):
        if not isinstance(other, Pair):
            return False
        return self._left == other._left and self._right == other._right and self._layout == other._layout

    def __str__(self):
        return f"pair of {len(self._left)} and {len(self._right)} parts"

    def is_stand(self, value):
        """Whether the value is a joint stand, reached or not."""
        return is_stand_of(self._plans, value)

    def begin(self):
        """The joint stand of the begin, and the two begin lists."""
        return begin_stand(self._plans)

    def stand(self, state, other):
        """The joint stand of these two states and all to which waiting leads."""
        self._check_states(state, other)
        return states_stand(self._plans, state, other)

    def has(self, stand, state, other):
        """Whether the joint stand has these two states."""
        self._check_stand(stand)
        self._check_states(state, other)
        if stand[:3] != (state[0], other[0], classes_of(state[1] + other[1])):
            return False
        return holds(stand[3], state[2] + other[2])

    def ways(self, stand):
        """All ways on from the joint stand: the events, then the moments, both ascending."""
        self._check_stand(stand)
        for way in all_ways(self._plans, self._layout, stand):
            yield way

    def follow(self, stand, way):
        """The joint stand to which the way leads, and the two lists."""
        self._check_stand(stand)
        if self._is_event_way(stand, way):
            return after_event(self._plans, stand, way[1:])
        if self._is_moment_way(stand, way):
            return after_moment(self._plans, stand, way[1])
        raise InvalidOperation("this is no way on from the joint stand")

    def within(self, stand, other):
        """Whether the first joint stand is within the second one."""
        self._check_stand(stand)
        self._check_stand(other)
        return stand[:3] == other[:3] and are_within(stand[3], other[3])

    def parted(self, first, second):
        """Whether two lists, which are told at one cause, differ."""
        if not is_list(first) or not is_list(second):
            raise InvalidOperation("this is no list")
        return first != second

    def _is_event_way(self, stand, way):
        """Whether the value is an event on from the joint stand."""
        if not isinstance(way, tuple) or len(way) != 4 or way[0] != "event":
            return False
        _, source, letter, number = way
        # Only strings are looked up: other values perhaps cannot be.
        if not isinstance(source, str) or source not in self._layout or letter not in self._layout[source]:
            return False
        return is_between(number, 0, new_class(stand))

    def _is_moment_way(self, stand, way):
        """Whether the value is a moment on from the joint stand."""
        if not isinstance(way, tuple) or len(way) != 2 or way[0] != "moment":
            return False
        return is_due_set(self._plans, stand, way[1])

    def _check_stand(self, value):
        """Raises the error for what is no joint stand."""
        if not is_stand_of(self._plans, value):
            raise InvalidStand("this is no joint stand of the pair")

    def _check_states(self, state, other):
        """Raises the error for what are no states of the two pipelines."""
        if not is_state_of(self._plans[0], state) or not is_state_of(self._plans[1], other):
            raise InvalidState("this is no state of the pipeline")


def plans_of(pair):
    """The plans of a pair, for the modules that look for papers."""
    return pair._plans
