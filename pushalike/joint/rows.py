"""Rows: the greatest differences between the readings of clocks.

Row i and column j bound `x_i - x_j` for the readings `x_1`, `x_2`, .., where `x_0` is 0. Rows are tight if each of
these bounds is reached by a point within all of them. Where nothing else is said, the rows that are passed are tight,
and so are those that are returned; None stands for those of no point.
"""

from pushalike.base.words import are_integers

MAX_CLOCKS = 12


def is_rows(value):
    """Whether the value is rows, tight or not."""
    if not isinstance(value, tuple) or not 1 <= len(value) <= MAX_CLOCKS + 1:
        return False
    return all([are_integers(row, len(value)) for row in value])


def is_tight(rows):
    """Whether rows of any kind are tight, and so those of at least one point."""
    places = range(len(rows))
    if any([rows[i][i] != 0 for i in places]):
        return False
    # Then no way round from i to j by other places is shorter than the straight one.
    return all([row[j] <= row[k] + rows[k][j] for row in rows for k in places for j in places])


def tight_rows(rows):
    """The tight rows of the points of any rows."""
    places = range(len(rows))
    if any([rows[i][i] < 0 for i in places]):
        return None
    rows = tuple([tuple([0 if i == j else rows[i][j] for j in places]) for i in places])
    for k in places:
        rows = tuple([tuple([min(row[j], row[k] + rows[k][j]) for j in places]) for row in rows])
    if any([rows[i][i] < 0 for i in places]):
        return None
    return rows


def zero_rows(many):
    """The rows of so many clocks that all read 0."""
    return ((0,) * (many + 1),) * (many + 1)


def point_rows(point):
    """The rows of one point."""
    readings = (0,) + point
    return tuple([tuple([one - other for other in readings]) for one in readings])


def holds(rows, point):
    """Whether rows of any kind hold a point for as many clocks."""
    readings = (0,) + point
    places = range(len(readings))
    return all([readings[i] - readings[j] <= rows[i][j] for i in places for j in places])


def both_rows(rows, others):
    """The points of both."""
    places = range(len(rows))
    return tight_rows(tuple([tuple([min(rows[i][j], others[i][j]) for j in places]) for i in places]))


def are_within(rows, others):
    """Whether all points of the rows are points of the others, which may be of any kind."""
    places = range(len(rows))
    return all([rows[i][j] <= others[i][j] for i in places for j in places])


def cut_rows(rows, i, j, most):
    """The points with `x_i - x_j` at most `most`."""
    if rows[i][j] <= most:
        return rows
    if rows[j][i] + most < 0:
        return None
    # A shorter way leads once over the new bound.
    places = range(len(rows))
    return tuple([tuple([min(row[k], row[i] + most + rows[j][k]) for k in places]) for row in rows])


def later_rows(rows, time):
    """The points with all readings greater by `time`."""
    # The first row and column bound the readings themselves; where two clocks are compared, nothing changes.
    first = tuple([rows[0][0]] + [most - time for most in rows[0][1:]])
    return (first,) + tuple([(row[0] + time,) + row[1:] for row in rows[1:]])


def risen_rows(rows, tops):
    """The points to which time can pass until a reading is above its top."""
    clocks = range(1, len(rows))
    if any([rows[0][j] + tops[j - 1] < 0 for j in clocks]):
        return None
    # The differences between clocks stay as time passes, and the tops take the place of the greatest readings.
    highest = [0] + [min([rows[i][j] + tops[j - 1] for j in clocks]) for i in clocks]
    return tuple([
        (highest[i],) + tuple([min(rows[i][j], highest[i] + rows[0][j]) for j in clocks])
        for i in range(len(rows))
    ])


def moved_rows(rows, places):
    """The points of the clocks at these places, where 0 stands for a new clock that reads 0."""
    kept = (0,) + places
    return tuple([tuple([rows[i][j] for j in kept]) for i in kept])
