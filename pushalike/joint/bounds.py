"""Bounds for the readings of clocks."""

from pushalike.base.words import are_integers, is_between, is_integer
from pushalike.errors import InvalidBounds, InvalidNumber, InvalidOperation, UnknownIndex
from pushalike.joint.rows import (
    MAX_CLOCKS,
    are_within,
    both_rows,
    cut_rows,
    holds,
    is_rows,
    later_rows,
    moved_rows,
    risen_rows,
    tight_rows,
    zero_rows,
)


class Bounds:
    """Bounds for the readings of clocks; they never change."""

    def __init__(self, rows):
        tight = tight_rows(rows) if is_rows(rows) else None
        if tight is None:
            raise InvalidBounds("these are no rows that hold a point")
        self._rows = tight

    @classmethod
    def zero(cls, many):
        """The bounds of so many clocks that all read 0."""
        if not is_between(many, 0, MAX_CLOCKS):
            raise InvalidNumber(many)
        return cls(zero_rows(many))

    @property
    def rows(self):
        """The tight rows."""
        return self._rows

    def __len__(self):
        return len(self._rows[1:])

    def __contains__(self, value):
        return are_integers(value, len(self)) and holds(self._rows, value)

    def __eq__(self, other):
        return isinstance(other, Bounds) and self._rows == other._rows

    def __str__(self):
        return f"bounds of {len(self)} clocks"

    def __and__(self, other):
        check_clocks(self, other)
        rows = both_rows(self._rows, other._rows)
        return None if rows is None else Bounds(rows)

    def __rshift__(self, time):
        if not is_integer(time) or time < 0:
            raise InvalidNumber(time)
        rows = later_rows(self._rows, time)
        if not is_rows(rows):
            raise InvalidNumber(time)
        return Bounds(rows)

    def least(self):
        """The point whose readings are all the least ones that occur."""
        return tuple([-most for most in self._rows[0][1:]])

    def within(self, other):
        """Whether all points are points of the other bounds."""
        check_clocks(self, other)
        return are_within(self._rows, other._rows)

    def cut(self, i, j, most):
        """The bounds of the points with `x_i - x_j` at most `most`, or None."""
        for index in (i, j):
            if not is_between(index, 0, len(self)):
                raise UnknownIndex(index)
        if not is_integer(most):
            raise InvalidNumber(most)
        rows = cut_rows(self._rows, i, j, most)
        return None if rows is None else Bounds(rows)

    def risen(self, tops):
        """The bounds of all points to which time can pass until a reading is above its top, or None."""
        if not are_integers(tops, len(self)):
            raise InvalidBounds("these are no tops of the clocks")
        rows = risen_rows(self._rows, tops)
        return None if rows is None else Bounds(rows)

    def moved(self, places):
        """The bounds of the clocks at these places; 0 stands for a new clock, which reads 0."""
        if not are_places(places, len(self)):
            raise InvalidBounds("these are no places of clocks")
        return Bounds(moved_rows(self._rows, places))


def check_clocks(bounds, other):
    """Raises the error for what is no bounds for as many clocks."""
    if not isinstance(other, Bounds) or len(bounds) != len(other):
        raise InvalidOperation("these are no bounds for as many clocks")


def are_places(value, many):
    """Whether the value is places among so many clocks, as in `moved`."""
    if not isinstance(value, tuple) or len(value) > MAX_CLOCKS:
        return False
    if not all([is_between(place, 0, many) for place in value]):
        return False
    old = [place for place in value if place > 0]
    return len(old) == len(set(old))
