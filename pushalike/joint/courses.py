"""Courses: two plans that run beside each other, one cause after another, and when these causes can happen.

The causes of a course are counted. 0 stands for the begin, or for the start of what is running already, at the time 0.
"""

from pushalike.joint.sides import heard_sides
from pushalike.run.shapes import needs_of


class Course:
    """Two plans that run beside each other.

    `plans` is the pair of plans, and `sides` the pair of states, whose readings mean nothing. `begins` tells of each
    clock, those of the first plan first, a cause and the reading that it had there. `demands` has for each cause from 1
    on what the clocks that were running demand of its time: triples of an earlier cause, and how long after it this
    cause must happen at least and at most.
    """

    def __init__(self, plans, states):
        self.plans = plans
        self.sides = states
        self.begins = tuple([(0, reading) for reading in states[0][2] + states[1][2]])
        self.demands = []

    def dues(self):
        """Of each clock a cause, and how long after it the clock is due."""
        clocks = needs_of(self.plans[0], self.sides[0][0])[1] + needs_of(self.plans[1], self.sides[1][0])[1]
        return [(cause, clock[0] - reading) for (cause, reading), clock in zip(self.begins, clocks)]

    def take(self, event, due):
        """The next cause happens, which is told as in `heard_sides`; both lists."""
        demands = []
        for place, (cause, time) in enumerate(self.dues(), 1):
            # A clock that is not due now must not have been due before either.
            demands.append((cause, time, time) if place in due else (cause, 0, time - 1))
        self.demands.append(demands)
        one, other = self.sides
        places = tuple(range(1, len(self.begins) + 1))
        states = one[:2] + (places[:len(one[2])],), other[:2] + (places[len(one[2]):],)
        sides, lists = heard_sides(self.plans, states, event, due)
        new = (len(self.demands), 0)
        self.begins = tuple([new if place == 0 else self.begins[place - 1] for place in sides[0][2] + sides[1][2]])
        self.sides = sides
        return lists


def earliest_times(demands):
    """The times of all causes, the earliest ones that these demands let; there must be some.

    No cause is earlier than the one before it, and 0 is at the time 0.
    """
    times = [0] * (len(demands) + 1)
    moved = True
    # Each demand only lets times rise, so none of them is ever later than it must be.
    while moved:
        moved = False
        for cause, rows in enumerate(demands, 1):
            leasts = [times[early] + least for early, least, _ in rows]
            times[cause] = max([times[cause], times[cause - 1]] + leasts)
        for cause in range(len(demands), 0, -1):
            for early, _, most in demands[cause - 1]:
                if times[early] < times[cause] - most:
                    times[early] = times[cause] - most
                    moved = True
    return times


def causes_over(course, tape, room):
    """The causes of a course on a tape, triples of the stamp and both lists; None if there are more than `room`."""
    found = []
    times = [0]
    stamps = tape.stamps()
    place = 0
    while True:
        dues = [times[cause] + time for cause, time in course.dues()]
        now = min(dues, default=None)
        end = stamps[place][0] if place < len(stamps) else tape.last
        goes_off = now is not None and now <= end
        if not goes_off and place == len(stamps):
            return found
        if len(found) == room:
            return None
        if goes_off:
            told, others = course.take(None, tuple([at for at, due in enumerate(dues, 1) if due == now]))
            found.append(((now, 0), told, others))
        else:
            told, others = course.take(tape[place][1:], ())
            found.append((stamps[place], told, others))
            place += 1
        times.append(found[-1][0][0])
