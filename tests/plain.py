"""Papers found and judged in the plainest way: over all states of small clocks, and rule by rule."""

from pushalike.base.tapes import Tape
from pushalike.errors import InvalidTape
from pushalike.joint.monitors import Watch
from pushalike.run.states import begin, due_in, event, moment, waited
from tests.counted import classes, needs, time_left
from tests.oracle import Beside


def both(pair, states, happened):
    """The states and the lists of two pipelines after an event, or after one step of time if it is None."""
    ends = []
    for pipeline, state in zip((pair.left, pair.right), states):
        if happened is not None:
            ends.append(event(pipeline, state, *happened))
        elif due_in(pipeline, state) == 1:
            ends.append(moment(pipeline, state))
        else:
            ends.append((waited(pipeline, state, 1), ()))
    return tuple(end[0] for end in ends), tuple(end[1] for end in ends)


def renamed(states):
    """The states with classes in the place of values."""
    one, other = states
    numbers = classes(one[1] + other[1])
    return (one[0], numbers[:len(one[1])], one[2]), (other[0], numbers[len(one[1]):], other[2])


def fewest_events(pair, start=None, most=1500):
    """With how few events lists are parted: a number, None if they never are, or "many" if there are too many states.

    Time passes step by step here, so clocks must be small.
    """
    if start is None:
        states = begin(pair.left)[0], begin(pair.right)[0]
        if begin(pair.left)[1] != begin(pair.right)[1]:
            return 0
    else:
        states = start
    known, layer, many = {renamed(states): True}, [renamed(states)], 0
    while layer:
        for here in layer:
            if time_left(pair, here) is not None:
                after, (told, others) = both(pair, here, None)
                if told != others:
                    return many
                if renamed(after) not in known:
                    known[renamed(after)] = True
                    layer.append(renamed(after))
        later = []
        for here in layer:
            for source in pair.layout:
                for letter in pair.layout[source]:
                    for value in range(len(set(here[0][1] + here[1][1])) + 1):
                        after, (told, others) = both(pair, here, (source, letter, value))
                        if told != others:
                            return many + 1
                        if renamed(after) not in known:
                            known[renamed(after)] = True
                            later.append(renamed(after))
        if len(known) > most:
            return "many"
        layer, many = later, many + 1
    return None


def causes_from(pair, states, tape, most=1000):
    """The stamps and both lists of all causes behind the start on a tape, by the functions of states alone."""
    found, now, place = [], 0, 0
    for happened in tape.events + (None,):
        end = tape.last if happened is None else happened[0]
        while time_left(pair, states) is not None and now + time_left(pair, states) <= end and len(found) <= most:
            left = time_left(pair, states)
            states = tuple(waited(pipeline, state, left - 1) for pipeline, state in zip((pair.left, pair.right), states))
            states, (told, others) = both(pair, states, None)
            now, place = now + left, 0
            found.append(((now, 0), told, others))
        if len(found) > most or happened is None:
            return found
        if end > now:
            states = tuple(waited(pipeline, state, end - now) for pipeline, state in zip((pair.left, pair.right), states))
            now, place = end, 0
        place += 1
        states, (told, others) = both(pair, states, happened[1:])
        found.append(((now, place), told, others))


def all_causes(pair, tape, start):
    """The stamps and both lists of all causes on a tape, with the begin if there is no start."""
    if start is not None:
        return causes_from(pair, start, tape)
    if isinstance(pair, Watch):
        return Beside(pair.left.tree, pair.right.tree).run(tape)
    (state, told), (other, others) = begin(pair.left), begin(pair.right)
    return [((0, -1), told, others)] + causes_from(pair, (state, other), tape, 999)


def first(pair, start):
    """The first joint stand, and whether the begin lists are parted."""
    if start is not None:
        return pair.stand(*start), False
    stand, told, others = pair.begin()
    return stand, pair.parted(told, others)


def is_within(pair, stand, stands):
    return any(pair.within(stand, other) for other in stands)


def leads(pair, stand, word, stands):
    """Whether on no event, or no moment, lists are parted, and each leads into one of the stands."""
    for way in pair.ways(stand):
        if way[0] == word:
            after, told, others = pair.follow(stand, way)
            if pair.parted(told, others) or not is_within(pair, after, stands):
                return False
    return True


def are_stands(pair, value):
    return isinstance(value, tuple) and all(pair.is_stand(stand) for stand in value)


def judge(pair, value, start=None):
    """Whether the value is a paper of the pair, by 9.2 and 9.3."""
    if not isinstance(value, tuple) or not value or not isinstance(value[0], str):
        return False
    if value[0] == "list" and len(value) == 2:
        return judge_list(pair, value[1], start)
    return value[0] == "row" and len(value) == 4 and judge_row(pair, value, start)


def judge_list(pair, stands, start):
    if not are_stands(pair, stands) or any(stand in stands[at + 1:] for at, stand in enumerate(stands)):
        return False
    stand, parted = first(pair, start)
    if parted or not is_within(pair, stand, stands):
        return False
    return all(leads(pair, stand, word, stands) for stand in stands for word in ("event", "moment"))


def judge_row(pair, value, start):
    _, events, last, rounds = value
    try:
        tape = Tape(events, last=last)
    except InvalidTape:
        return False
    if last is None or not tape.fits(pair.layout):
        return False
    causes = all_causes(pair, tape, start)
    if not causes or len(causes) > 1000 or causes[-1][0][0] != last:
        return False
    if [pair.parted(told, others) for _, told, others in causes] != [False] * (len(causes) - 1) + [True]:
        return False
    if not isinstance(rounds, tuple) or len(rounds) != len(events) or not all(are_stands(pair, stands) for stands in rounds):
        return False
    if rounds and not is_within(pair, first(pair, start)[0], rounds[0]):
        return False
    for i, stands in enumerate(rounds):
        so_far = [stand for round in rounds[:i + 1] for stand in round]
        soon = [stand for round in rounds[:i + 2] for stand in round]
        if not all(leads(pair, stand, "moment", so_far) for stand in stands):
            return False
        if i < len(rounds) - 1 and not all(leads(pair, stand, "event", soon) for stand in stands):
            return False
    return True


def reached(pair, start=None, most=1000):
    """The joint stands that are reached, in any order; at most so many and one more."""
    found = {repr(first(pair, start)[0]): first(pair, start)[0]}
    waiting = list(found.values())
    while waiting and len(found) <= most:
        stand = waiting.pop()
        for way in pair.ways(stand):
            after = pair.follow(stand, way)[0]
            if repr(after) not in found:
                found[repr(after)] = after
                waiting.append(after)
    return [found[text] for text in sorted(found)]


def due_clocks(pair, states):
    """The clocks that are due after one more step of time, and never before, counted from 1."""
    left, found, at = time_left(pair, states), [], 0
    for pipeline, state in zip((pair.left, pair.right), states):
        for d, reading in zip(needs(pipeline, state[0])[1], state[2]):
            at += 1
            if d - reading == left:
                found.append(at)
    return tuple(found)


def ways_over(pair, tape):
    """The time and what happens, an event or the clocks that are due, of all causes behind the begin on a tape."""
    states, now, found = (begin(pair.left)[0], begin(pair.right)[0]), 0, []
    for happened in tape.events + (None,):
        end = tape.last if happened is None else happened[0]
        while time_left(pair, states) is not None and now + time_left(pair, states) <= end:
            left = time_left(pair, states)
            found.append((now + left, due_clocks(pair, states)))
            states = tuple(waited(pipeline, state, left - 1) for pipeline, state in zip((pair.left, pair.right), states))
            states, now = both(pair, states, None)[0], now + left
        if happened is not None:
            states = tuple(waited(pipeline, state, end - now) for pipeline, state in zip((pair.left, pair.right), states))
            states, now = both(pair, states, happened[1:])[0], end
            found.append((end, happened[1:]))
    return found
