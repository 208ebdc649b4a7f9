"""Tapes: events, and the time up to which time passes."""

from pushalike.base.words import is_between, is_event, is_integer, is_layout
from pushalike.errors import InvalidLayout, InvalidNumber, InvalidOperation, InvalidTape, UnknownIndex


class Tape:
    """A tape; it never changes."""

    def __init__(self, events=(), *, last=None):
        if not is_row_of_events(events):
            raise InvalidTape("these are not the events of a tape")
        least = events[-1][0] if len(events) > 0 else 0
        if last is not None and (not is_integer(last) or last < least):
            raise InvalidTape("time cannot pass up to there")
        self._events = events
        self._last = least if last is None else last

    @property
    def events(self):
        """The events."""
        return self._events

    @property
    def last(self):
        """The time up to which time passes."""
        return self._last

    def __len__(self):
        return len(self._events)

    def __getitem__(self, index):
        if not is_between(index, 0, len(self._events) - 1):
            raise UnknownIndex(index)
        return self._events[index]

    def __iter__(self):
        raise TypeError("a tape cannot be iterated over")

    def __eq__(self, other):
        return isinstance(other, Tape) and self._events == other._events and self._last == other._last

    def __str__(self):
        return f"tape of {len(self._events)} events up to {self._last}"

    def __add__(self, other):
        if not isinstance(other, Tape):
            raise InvalidOperation("this is no tape")
        later = other >> self._last
        return Tape(self._events + later.events, last=later.last)

    def __rshift__(self, time):
        if not is_integer(time) or time < 0:
            raise InvalidNumber(time)
        events = tuple([(at + time, source, letter, value) for at, source, letter, value in self._events])
        return Tape(events, last=self._last + time)

    def stamps(self):
        """The stamps of the events."""
        found = []
        for event in self._events:
            time = event[0]
            place = found[-1][1] + 1 if found and found[-1][0] == time else 1
            found.append((time, place))
        return tuple(found)

    def upto(self, time):
        """The tape up to this time."""
        if not is_between(time, 0, self._last):
            raise InvalidNumber(time)
        return Tape(tuple([event for event in self._events if event[0] <= time]), last=time)

    def changed(self, table):
        """The tape with other values in the place of those that the table names."""
        if not is_value_table(table):
            raise InvalidTape("this is no dict from integers to integers")
        # Each value is looked up once, so a value that the table gives is not replaced again.
        events = tuple([(at, source, letter, table.get(value, value)) for at, source, letter, value in self._events])
        return Tape(events, last=self._last)

    def fits(self, layout):
        """Whether all sources and letters are in the layout."""
        if not is_layout(layout):
            raise InvalidLayout("this is no layout")
        return all([event[1] in layout and event[2] in layout[event[1]] for event in self._events])


def is_row_of_events(value):
    """Whether the value is a tuple of events whose times never fall."""
    if not isinstance(value, tuple) or not all([is_event(event) for event in value]):
        return False
    return all([value[k][0] <= value[k + 1][0] for k in range(len(value) - 1)])


def is_value_table(value):
    """Whether the value is a dict from integers to integers."""
    return isinstance(value, dict) and all([is_integer(key) and is_integer(value[key]) for key in value])
