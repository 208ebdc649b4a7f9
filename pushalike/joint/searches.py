"""The search for papers."""

from pushalike.errors import TooMany
from pushalike.joint.courses import Course, earliest_times
from pushalike.joint.looks import events_from, first_stand, look, moments_from
from pushalike.joint.sides import begun_sides
from pushalike.joint.stands import plans_of
from pushalike.joint.ways import classes_of


class Search:
    """The joint stands of a pair that have been reached so far, at most `limit` of them.

    `stands` has them in the order in which they were found, and `origins` tells of each from which one it was found,
    by its index, and on which way. `rounds` has those that are reached with no event and not with fewer, then those
    with one event, and so on. `texts` are the texts of all stands, as stands may be nested too deep for keys.
    """

    def __init__(self, pair, stand, limit):
        self.pair = pair
        self.limit = limit
        self.stands = [stand]
        self.origins = [(None, None)]
        self.rounds = []
        self.texts = {repr(stand): 0}

    def parts_lists(self, index, way):
        """Whether the lists are parted on a way from this stand; otherwise it may lead to a new stand."""
        stand, parted = look(self.pair, self.stands[index], way)
        if parted:
            return True
        text = repr(stand)
        if text not in self.texts:
            if len(self.stands) == self.limit:
                raise TooMany(self.limit)
            self.texts[text] = len(self.stands)
            self.stands.append(stand)
            self.origins.append((index, way))
        return False

    def ways_to(self, index):
        """The ways that led from the first stand to this one."""
        found = []
        while self.origins[index][0] is not None:
            index, way = self.origins[index]
            found.append(way)
        found.reverse()
        return found

    def parting_ways(self):
        """The ways to a cause at which the lists are parted, with as few events as can be, or None."""
        low = 0
        while low < len(self.stands):
            index = low
            while index < len(self.stands):
                moments = moments_from(self.pair, self.stands[index])
                for way in moments:
                    if self.parts_lists(index, way):
                        return self.ways_to(index) + [way]
                index += 1
            high = len(self.stands)
            self.rounds.append(tuple(self.stands[low:high]))
            for index in range(low, high):
                events = events_from(self.pair, self.stands[index])
                for way in events:
                    if self.parts_lists(index, way):
                        return self.ways_to(index) + [way]
            low = high
        return None


def found_paper(pair, start, limit):
    """A paper of the pair, as `find_paper` returns it."""
    stand, parted = first_stand(pair, start)
    search = Search(pair, stand, limit)
    ways = [] if parted else search.parting_ways()
    if ways is None:
        return "list", tuple([search.stands[search.texts[text]] for text in sorted(search.texts)])
    events, last = tape_of(pair, start, ways)
    return "row", events, last, tuple(search.rounds)


def tape_of(pair, start, ways):
    """The events and the last time of the tape on which these ways follow each other as early as possible."""
    plans = plans_of(pair)
    course = Course(plans, begun_sides(plans)[0] if start is None else start)
    # Values that are kept at the start have been given already, and so have those of earlier events.
    given = {value: True for value in values_of(course)}
    events = []
    for way in ways:
        if way[0] == "moment":
            course.take(None, way[1])
        else:
            value = value_of(course, way[3], given)
            course.take((way[1], way[2], value), ())
            events.append((len(course.demands), way[1], way[2], value))
    times = earliest_times(course.demands)
    return tuple([(times[cause], source, letter, value) for cause, source, letter, value in events]), times[-1]


def values_of(course):
    """The values that both states of a course keep."""
    return course.sides[0][1] + course.sides[1][1]


def value_of(course, number, given):
    """The value that has this class now, or the least one that has not been given."""
    values = values_of(course)
    classes = classes_of(values)
    if number in classes:
        return values[classes.index(number)]
    value = 0
    while value in given:
        value += 1
    given[value] = True
    return value
