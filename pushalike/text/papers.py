"""Texts of papers."""

from pushalike.base.tapes import is_row_of_events
from pushalike.base.words import is_event, is_integer
from pushalike.errors import InvalidPaper, ParseError
from pushalike.text.stands import has_stand_form, item_text, stand_of
from pushalike.text.integers import integer_of


def write_paper(paper):
    """The text of what has the form of a paper."""
    if not has_list_form(paper) and not has_row_form(paper):
        raise InvalidPaper("this does not have the form of a paper")
    if paper[0] == "list":
        return "\n".join(["list"] + [item_text(stand) for stand in paper[1]])
    _, events, last, rounds = paper
    lines = ["row"] + [" ".join([str(item) for item in event]) for event in events] + [f"until {last}"]
    for stands in rounds:
        lines = lines + ["round"] + [item_text(stand) for stand in stands]
    return "\n".join(lines)


def has_list_form(value):
    """Whether the value has the form of a list paper."""
    if not isinstance(value, tuple) or len(value) != 2 or value[0] != "list":
        return False
    return have_stand_form(value[1])


def has_row_form(value):
    """Whether the value has the form of a row paper."""
    if not isinstance(value, tuple) or len(value) != 4 or value[0] != "row":
        return False
    _, events, last, rounds = value
    if not is_row_of_events(events) or not is_integer(last) or last < latest_time(events):
        return False
    if not isinstance(rounds, tuple) or len(rounds) != len(events):
        return False
    return all([have_stand_form(stands) for stands in rounds])


def have_stand_form(value):
    """Whether the value is a tuple of what has the form of joint stands."""
    return isinstance(value, tuple) and all([has_stand_form(stand) for stand in value])


def latest_time(events):
    """The time of the last one of these events, or 0."""
    return events[-1][0] if len(events) > 0 else 0


def read_paper(text):
    """The value with this text."""
    if not isinstance(text, str):
        raise ParseError(None)
    lines = text.split("\n")
    if lines[0] == "list":
        return "list", tuple([read_stand(lines, index) for index in range(1, len(lines))])
    if lines[0] != "row":
        raise ParseError(0)
    events, last = read_tape(lines)
    return "row", events, last, read_rounds(lines, len(events))


def read_stand(lines, index):
    """The joint stand on this line."""
    stand = stand_of(lines[index])
    if stand is None:
        raise ParseError(index)
    return stand


def read_tape(lines):
    """The events on the lines from the second one on, and the last time on the line behind them."""
    events = []
    for index in range(1, len(lines)):
        words = lines[index].split(" ")
        time = integer_of(words[1]) if words[0] == "until" and len(words) == 2 else None
        if time is not None and time >= latest_time(events):
            return tuple(events), time
        event = event_of(words)
        if event is None or event[0] < latest_time(events):
            raise ParseError(index)
        events.append(event)
    raise ParseError(len(lines))


def event_of(words):
    """The event with these words, or None."""
    if len(words) != 4:
        return None
    event = (integer_of(words[0]), words[1], words[2], integer_of(words[3]))
    return event if is_event(event) else None


def read_rounds(lines, many):
    """The rounds, which must be so many, on the lines behind as many events and the last time."""
    rounds = []
    for index in range(many + 2, len(lines)):
        if lines[index] == "round" and len(rounds) < many:
            rounds.append([])
        elif len(rounds) > 0:
            rounds[-1].append(read_stand(lines, index))
        else:
            raise ParseError(index)
    if len(rounds) < many:
        raise ParseError(len(lines))
    return tuple([tuple(stands) for stands in rounds])
