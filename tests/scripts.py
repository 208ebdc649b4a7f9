"""Short ways to run pipelines in tests, by the functions of states alone."""

import unittest

from pushalike.run.states import begin, due_in, event, is_state, moment, waited
from pushalike.tree.texts import read_pipeline


def passing(box, state, now, time):
    """The state after so much time from `now` on, and the pairs of time and list that were told."""
    log, end = [], now + time
    while due_in(box, state) is not None and now + due_in(box, state) <= end:
        now += due_in(box, state)
        state, told = moment(box, state)
        if told:
            log.append((now, told))
    return waited(box, state, end - now), log


def play(text, *steps):
    """The state after these steps, events `(source, letter, value)` or numbers of time, and what was told when.

    What the begin list tells has the time -1.
    """
    box = read_pipeline(text)
    state, told = begin(box)
    log, now = [(-1, told)] if told else [], 0
    assert is_state(box, state)
    for step in steps:
        if isinstance(step, int):
            state, more = passing(box, state, now, step)
            log, now = log + more, now + step
        else:
            state, told = event(box, state, *step)
            log += [(now, told)] if told else []
        assert is_state(box, state), state
    return state, log


def e(text, value=1):
    """An event of a source and a letter, like `e("s a", 7)`."""
    source, letter = text.split()
    return source, letter, value


class Plays(unittest.TestCase):
    def plays(self, text, steps, state, log):
        """These steps lead to this state, and this is told on the way."""
        self.assertEqual(play(text, *steps), (state, log), text)
