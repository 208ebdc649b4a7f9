"""The functions of states: their answers in general, and their errors."""

import unittest

from pushalike.errors import InvalidNumber, InvalidOperation, InvalidPipeline, InvalidState, InvalidTape
from pushalike.run.states import begin, due_in, event, is_state, moment, waited
from pushalike.tree.pipelines import Pipeline
from pushalike.tree.texts import read_pipeline
from tests.chance import Chance
from tests.oracle import Machine
from tests.samples import MOST, S, junk
from tests.scripts import passing

OVER = ("over", (), ())
BOX = read_pipeline("(switch (quiet 3 s) (until t (after 5 z)))")
STATE = ((("a", "on"), (None, ("on", "on"))), (7,), (1, 4))
WRONG_STATES = (OVER + ((),), ((("a", "on"), None), (7,), (3,)), ((("a", "on"), None), (), (0,)), (("a", "on"), (7,), (0,)), ("on", (), ()), list(OVER),
                ((["a", "on"], None), (7,), (0,)), ((("a", "on"), ("b", ("on", "on"))), (7, 8), (1, 4)), None, (), "over")


class Answers(unittest.TestCase):
    def test_the_example(self):
        state, told = event(BOX, begin(BOX)[0], "s", "a", 7)
        self.assertEqual([state, told, due_in(BOX, state), waited(BOX, state, 2)],
                         [((("a", "on"), None), (7,), (0,)), (), 3, ((("a", "on"), None), (7,), (2,))])
        self.assertEqual(moment(BOX, state), ((((None, "on"), (None, ("on", "on"))), (), (0,)), ()))

    def test_due_in(self):
        for text, state, left in (
            ("s", ("on", (), ()), None), ("(one z)", OVER, None), ("(only a s)", OVER, None), ("(after 4 z)", ("on", (), (0,)), 4),
            ("(after 4 z)", ("on", (), (3,)), 1), ("(quiet 3 s)", ((None, "on"), (), ()), None), ("(quiet 3 s)", (("a", "on"), (7,), (1,)), 2),
            ("(late 5 2 s)", ((("a", "b"), "on"), (7, 8), (4, 2)), 1), ("(+ (after 4 z) (after 9 z))", (("on", "on"), (), (1, 7)), 2),
            ("(+ (after 4 z) (after 9 z))", (("over", "on"), (), (7,)), 2), (f"(after {10 ** 40 - 1} z)", ("on", (), (0,)), 10 ** 40 - 1),
        ):
            self.assertEqual(due_in(read_pipeline(text), state), left, text)
        self.assertEqual(due_in(BOX, STATE), 1)

    def test_waiting_in_one_piece_and_in_two(self):
        for seed in range(150):
            chance = Chance(seed)
            box = chance.pipeline(8)
            state = begin(box)[0]
            for _ in range(4):
                state = event(box, state, *chance.event())[0]
                left = due_in(box, state)
                for time in range(6 if left is None else min(left, 6)):
                    whole = waited(box, state, time)
                    self.assertTrue(is_state(box, whole))
                    self.assertEqual(due_in(box, whole), None if left is None else left - time)
                    for piece in range(time + 1):
                        self.assertEqual(waited(box, waited(box, state, piece), time - piece), whole)
                    if left is not None:
                        self.assertEqual(moment(box, whole), moment(box, state))
                state = passing(box, state, 0, chance.random.randint(0, 3))[0]

    def test_up_to_just_below_the_next_moment(self):
        box = read_pipeline("(+ (after 4 z) (late 9 1 (pick - s)))")
        state = (("on", (("b",), ("on",))), (), (1, 2))
        self.assertEqual(due_in(box, state), 3)
        self.assertEqual(waited(box, state, 0), state)
        self.assertEqual(waited(box, state, 2)[2], (3, 4))
        self.assertEqual(moment(box, state), ((("over", (("b",), ("on",))), (), (5,)), (("z", ()),)))

    def test_without_clocks_all_times_pass(self):
        for box, state in ((read_pipeline("s"), ("on", (), ())), (read_pipeline("(one z)"), OVER), (BOX, (((None, "on"), None), (), ()))):
            for time in (0, 1, MOST):
                self.assertEqual(waited(box, state, time), state)

    def test_a_pipeline_that_is_over_tells_nothing(self):
        for text in ("(one z)", "(only a s)", "(switch s (after 2 z))"):
            box = read_pipeline(text)
            self.assertEqual(event(box, OVER, "s", "a", 1), (OVER, ()))
            self.assertEqual((due_in(box, OVER), waited(box, OVER, 3)), (None, OVER))

    def test_other_sources_change_nothing(self):
        for source, letter in (("u", "a"), ("abcdefgh", "z"), ("ss", "a")):
            self.assertEqual(event(BOX, STATE, source, letter, 5), (STATE, ()))
        every = read_pipeline("(+ (quiet 2 s) (+ (late 3 1 s) (changes s)))")
        state = (("a", "on"), ((("b",), "on"), (1, "on"))), (1, 2, 3), (1, 2)
        self.assertEqual(event(every, state, "t", "a", 5), (state, ()))

    def test_states_that_are_not_reached(self):
        box = read_pipeline("(late 3 3 (quiet 5 (only b s)))")
        state = ((("z", "y"), ("x", ("on",))), (1, 2, 3), (2, 2, 4))
        self.assertEqual(moment(box, state), (((("x",), (None, ("on",))), (3,), (0,)), (("z", (1,)), ("y", (2,)))))

    def test_values_are_only_told_apart(self):
        for values in ((1, 2), (-5, 10 ** 59), (MOST, -MOST)):
            box = read_pipeline("(changes s)")
            state = ((1, "on"), values[:1], ())
            self.assertEqual(event(box, state, "s", "a", values[1]), (((1, "on"), values[1:], ()), (("a", values[1:]),)))
            self.assertEqual(event(box, state, "s", "a", values[0]), (state, ()))

    def test_by_chance_beside_a_second_reading_of_the_document(self):
        for seed in range(400):
            chance = Chance(seed)
            box, tape = chance.pipeline(), chance.tape()
            machine = Machine(box.tree)
            state, told = begin(box)
            self.assertEqual(dict(machine.told).get((0, -1), ()), told)
            now = 0
            for time, *rest in tape.events + ((tape.last, None),):
                state = passing(box, state, now, time - now)[0]
                machine.wait_until(time)
                now = time
                self.assertEqual(state, machine.state(), box.tree)
                if rest != [None]:
                    state, told = event(box, state, *rest)
                    self.assertEqual(told, machine.push(*rest), box.tree)
                self.assertEqual(state, machine.state(), box.tree)
                self.assertTrue(is_state(box, state))


class Errors(unittest.TestCase):
    CALLS = (
        lambda box, state: event(box, state, "s", "a", 1), lambda box, state: event(box, state, None, None, None), due_in,
        lambda box, state: waited(box, state, 0), lambda box, state: waited(box, state, None), moment,
    )

    def test_what_is_no_pipeline(self):
        for value in junk() + [S, "s", (BOX,)]:
            if not isinstance(value, Pipeline):
                with self.assertRaises(InvalidPipeline):
                    begin(value)
                for call in self.CALLS:
                    for state in (OVER, STATE, None):
                        with self.assertRaises(InvalidPipeline):
                            call(value, state)

    def test_what_is_no_state(self):
        for call in self.CALLS:
            for value in junk() + list(WRONG_STATES):
                with self.assertRaises(InvalidState):
                    call(BOX, value)
            with self.assertRaises(InvalidState):
                call(read_pipeline("s"), OVER)

    def test_what_is_no_event(self):
        right = ("s", "a", 1)
        wrong = (
            ("", "S", "it", "source", "abcdefghi", 1, None, True, ("s",), ["s"]), ("", "A", "ab", "-", 1, None, ("a",), ["a"]),
            (MOST + 1, -MOST - 1, True, False, None, "1", (1,), [1]),
        )
        for box, state in ((BOX, STATE), (read_pipeline("(one z)"), OVER), (read_pipeline("s"), ("on", (), ()))):
            for at in range(3):
                for value in wrong[at]:
                    with self.assertRaises(InvalidTape):
                        event(box, state, *(right[:at] + (value,) + right[at + 1:]))
                for value in junk():
                    if at < 2 or not (type(value) is int and abs(value) <= MOST):
                        with self.assertRaises(InvalidTape):
                            event(box, state, *(right[:at] + (value,) + right[at + 1:]))

    def test_what_is_no_time(self):
        for box, state, left in ((BOX, STATE, 1), (read_pipeline("(after 4 z)"), ("on", (), (1,)), 3), (read_pipeline("s"), ("on", (), ()), None)):
            for value in junk() + [-1, 3, 4, MOST]:
                if type(value) is int and 0 <= value <= MOST and (left is None or value < left):
                    waited(box, state, value)
                else:
                    with self.assertRaises(InvalidNumber) as caught:
                        waited(box, state, value)
                    self.assertIs(caught.exception.value, value)

    def test_no_clock_is_running(self):
        for text, state in (("s", ("on", (), ())), ("(one z)", OVER), ("(quiet 3 s)", ((None, "on"), (), ())), ("(spaced 3 s)", ((0, "on"), (), ())),
                            ("(late 3 1 s)", (((), "on"), (), ())), ("(else 3 s t)", ((2, "on"), (), ()))):
            with self.assertRaises(InvalidOperation):
                moment(read_pipeline(text), state)
