"""Pipelines that are running."""

import unittest

from pushalike.base.tapes import Tape
from pushalike.errors import InvalidNumber, InvalidPipeline, InvalidTape, NothingToUndo, TooMany
from pushalike.run.live import Live
from pushalike.run.readings import read
from pushalike.run.states import begin, is_state
from pushalike.tree.pipelines import Pipeline
from pushalike.tree.texts import read_pipeline
from tests.chance import Chance
from tests.oracle import Machine
from tests.samples import MOST, S, junk

EXAMPLE = "(switch (quiet 3 s) (until t (after 5 z)))"


def live(text):
    return Live(read_pipeline(text))


def stand(box):
    """All that can be seen of a running pipeline."""
    return box.pipeline, box.now, box.state, box.tape, box.told, len(box), str(box)


def undone(box):
    """How many steps can be done again, asked of a twin."""
    many, other = 0, box.twin()
    while True:
        try:
            other.redo()
        except NothingToUndo:
            return many
        many += 1


class Steps(unittest.TestCase):
    def test_the_example(self):
        box = live(EXAMPLE)
        self.assertEqual([box.push("s", "a", 7), box.wait(4), box("t", "b", 8), box.wait(3), box.told],
                         [(), (), (("b", (8,)),), (), (((4, 1), (("b", (8,)),)),)])
        self.assertIs(box.undo(2), None)
        self.assertEqual([box.now, len(box), box.wait(5), box("t", "b", 9), box.state], [4, 2, (), (), (((None, "on"), None), (), ())])

    def test_just_begun(self):
        for text in ("s", "(one z)", "(+ (one y) (after 3 z))", EXAMPLE):
            box = live(text)
            state, told = begin(read_pipeline(text))
            self.assertEqual(stand(box)[1:6], (0, state, Tape(), (((0, -1), told),) if told else (), 0))
            self.assertEqual(box.pipeline, read_pipeline(text))

    def test_stamps_of_events(self):
        box = live("s")
        for time, places in ((0, 2), (3, 3), (0, 1), (1, 1)):
            box.wait(time)
            for _ in range(places):
                box.push("s", "a", 1)
        self.assertEqual([stamp for stamp, _ in box.told], [(0, 1), (0, 2), (3, 1), (3, 2), (3, 3), (3, 4), (4, 1)])
        self.assertEqual(tuple(stamp for stamp, _ in box.told), box.tape.stamps())

    def test_waiting(self):
        box = live("(every 3 z)")
        self.assertEqual(box.wait(2), ())
        self.assertEqual(box.wait(0), ())
        self.assertEqual(box.wait(1), (((3, 0), (("z", ()),)),))
        self.assertEqual(box.wait(7), (((6, 0), (("z", ()),)), ((9, 0), (("z", ()),))))
        self.assertEqual((box.now, box.state), (10, ("on", (), (1,))))
        self.assertEqual(live("(after 3 z)").wait(9), (((3, 0), (("z", ()), "end")),))
        self.assertEqual(live("(only a (every 3 z))").wait(9), ())

    def test_an_event_after_the_moment_of_its_time(self):
        box = live("(quiet 3 s)")
        box.push("s", "a", 1)
        self.assertEqual(box.wait(3), (((3, 0), (("a", (1,)),)),))
        self.assertEqual(box.push("s", "b", 2), ())
        self.assertEqual(box.state, (("b", "on"), (2,), (0,)))

    def test_other_sources_and_ends(self):
        box = live("(first 1 s)")
        self.assertEqual([box("t", "a", 1), box("s", "a", 1), box("s", "a", 1), box.wait(4)], [(), (("a", (1,)), "end"), (), ()])
        self.assertEqual((len(box), len(box.tape), box.state), (4, 3, ("over", (), ())))

    def test_long_times(self):
        box = live("(quiet 3 s)")
        box.push("s", "a", 1)
        self.assertEqual(box.wait(MOST), (((3, 0), (("a", (1,)),)),))
        self.assertEqual(box.push("s", "b", 2), ())
        self.assertEqual(box.wait(0), ())
        with self.assertRaises(InvalidNumber) as caught:
            box.wait(1)
        self.assertEqual(caught.exception.value, 1)
        self.assertEqual((box.now, len(box), box.tape.last), (MOST, 4, MOST))

    def test_by_chance_beside_read_and_a_second_reading_of_the_document(self):
        for seed in range(400):
            chance = Chance(seed)
            pipeline = chance.pipeline()
            box, machine, lists = Live(pipeline), Machine(pipeline.tree), []
            lists += box.told
            for _ in range(10):
                if chance.random.random() < 0.5:
                    time = chance.random.randint(0, 5)
                    news = box.wait(time)
                    lists += news
                    machine.wait_until(box.now)
                else:
                    told = box.push(*chance.event())
                    machine.push(*box.tape.events[-1][1:])
                    if told:
                        lists.append((box.tape.stamps()[-1], told))
                self.assertEqual(box.told, tuple(lists))
                self.assertEqual(box.told, read(pipeline, box.tape))
                self.assertEqual((box.told, box.state, box.now), (tuple(machine.told), machine.state(), machine.now))
                self.assertEqual(box.tape.last, box.now)
                self.assertTrue(is_state(pipeline, box.state))

    def test_more_than_a_thousand_causes(self):
        box = live("(+ (every 1 z) (pick - s))")
        for _ in range(3):
            box.wait(600)
            for _ in range(200):
                box.push("s", "a", 1)
        self.assertEqual(len(box.told), 3 * 600 + 3 * 200)
        self.assertEqual(len(box.tape), 600)
        with self.assertRaises(TooMany):
            read(box.pipeline, box.tape)


class Errors(unittest.TestCase):
    def unchanged(self, box, error, call):
        """A call that raises an error changes nothing, also not what can be redone."""
        before, many = stand(box), undone(box)
        with self.assertRaises(error) as caught:
            call()
        self.assertEqual((stand(box), undone(box)), (before, many))
        return caught.exception

    def boxes(self):
        """Running pipelines without steps, with steps, and with steps that can be redone."""
        for text in (EXAMPLE, "(one z)"):
            box = live(text)
            yield box
            box.push("s", "a", 7)
            box.wait(3)
            box.push("t", "a", 7)
            yield box
            box.undo(2)
            yield box

    def test_what_is_no_pipeline(self):
        for value in junk() + [S, "s", None, live("s")]:
            if not isinstance(value, Pipeline):
                with self.assertRaises(InvalidPipeline):
                    Live(value)

    def test_what_is_no_event(self):
        right = ("s", "a", 1)
        for box in self.boxes():
            for at in range(3):
                for value in junk():
                    if at < 2 or not (type(value) is int and abs(value) <= MOST):
                        for call in (box.push, box):
                            with self.assertRaises(InvalidTape):
                                call(*(right[:at] + (value,) + right[at + 1:]))
            for wrong in (("it", "a", 1), ("s", "ab", 1), ("s", "a", MOST + 1), ("s", "a", True), ("s", "a", None), (None, None, None)):
                self.unchanged(box, InvalidTape, lambda: box.push(*wrong))

    def test_what_is_no_time(self):
        for box in self.boxes():
            for value in junk() + [-1, MOST + 1, 10 ** 99, True, None]:
                if type(value) is not int or not 0 <= value <= MOST:
                    self.assertIs(self.unchanged(box, InvalidNumber, lambda: box.wait(value)).value, value)

    def test_too_much_time(self):
        for text in (EXAMPLE, "(every 1 z)"):
            box = live(text)
            box.wait(9)
            box.wait(1)
            box.undo()
            for time in (MOST - 8, MOST):
                # It comes before the number of moments.
                self.assertEqual(self.unchanged(box, InvalidNumber, lambda: box.wait(time)).value, time)
        box = live("s")
        box.wait(9)
        box.wait(MOST - 9)
        self.assertEqual(box.now, MOST)

    def test_a_thousand_moments_in_one_wait_and_one_more(self):
        for text, d in (("(every 1 z)", 1), ("(only a (every 3 z))", 3)):
            box = live(text)
            for time in (1001 * d, 1002 * d, MOST):
                self.assertEqual(self.unchanged(box, TooMany, lambda: box.wait(time)).limit, 1000)
            self.assertEqual(len(box.wait(1001 * d - 1)), 1000 if d == 1 else 0)
            self.assertEqual(len(box.wait(1000 * d)), 1000 if d == 1 else 0)
            self.assertEqual(box.now, 2001 * d - 1)

    def test_what_is_no_number_of_steps(self):
        for box in self.boxes():
            for value in junk() + [-1, True, False, None, MOST + 1]:
                if type(value) is not int or not 0 <= value <= MOST:
                    self.assertIs(self.unchanged(box, InvalidNumber, lambda: box.undo(value)).value, value)
                    self.assertIs(self.unchanged(box, InvalidNumber, lambda: box.redo(value)).value, value)

    def test_fewer_steps(self):
        for box in self.boxes():
            for many in (len(box) + 1, len(box) + 7, MOST):
                self.assertEqual(self.unchanged(box, NothingToUndo, lambda: box.undo(many)).many, many)
            for many in (undone(box) + 1, undone(box) + 7, MOST):
                self.assertEqual(self.unchanged(box, NothingToUndo, lambda: box.redo(many)).many, many)
        box = live("s")
        self.assertEqual(self.unchanged(box, NothingToUndo, box.undo).many, 1)
        self.assertEqual(self.unchanged(box, NothingToUndo, box.redo).many, 1)


class Undone(unittest.TestCase):
    def stepped(self):
        """A running pipeline, and all its stands on the way."""
        box = live("(+ (one y) (+ (late 3 2 (pick - s)) (every 2 z)))")
        stands = [stand(box)]
        for step in (("s", "a", 7), 1, ("s", "b", 8), 0, 4, ("t", "a", 1), ("s", "a", 7), 2):
            if isinstance(step, int):
                box.wait(step)
            else:
                box.push(*step)
            stands.append(stand(box))
        return box, stands

    def test_back_and_forth(self):
        for many in range(9):
            box, stands = self.stepped()
            self.assertIs(box.undo(many), None)
            self.assertEqual(stand(box), stands[8 - many])
            self.assertEqual(undone(box), many)
            for again in range(many + 1):
                other = box.twin()
                self.assertIs(other.redo(again), None)
                self.assertEqual(stand(other), stands[8 - many + again])
                self.assertEqual(undone(other), many - again)

    def test_one_by_one(self):
        box, stands = self.stepped()
        for at in range(7, -1, -1):
            box.undo()
            self.assertEqual(stand(box), stands[at])
        with self.assertRaises(NothingToUndo):
            box.undo()
        for at in range(1, 9):
            box.redo()
            self.assertEqual(stand(box), stands[at])
        with self.assertRaises(NothingToUndo):
            box.redo()

    def test_none_at_all(self):
        box = live("s")
        box.undo(0)
        box.redo(0)
        box, stands = self.stepped()
        box.undo(3)
        box.undo(0)
        box.redo(0)
        self.assertEqual((stand(box), undone(box)), (stands[5], 3))

    def test_a_step_behind_an_undo_ends_what_can_be_redone(self):
        for step in (lambda box: box.wait(0), lambda box: box.wait(5), lambda box: box.push("s", "a", 1), lambda box: box("u", "z", 1)):
            box, stands = self.stepped()
            box.undo(4)
            step(box)
            self.assertEqual((len(box), undone(box)), (5, 0))
            with self.assertRaises(NothingToUndo):
                box.redo()
            box.undo(1)
            self.assertEqual(stand(box), stands[4])
            self.assertEqual(undone(box), 1)
            box.redo()
            self.assertEqual(box.told, read(box.pipeline, box.tape))

    def test_after_an_undo_places_count_on(self):
        box = live("s")
        box.push("s", "a", 1)
        box.push("s", "a", 2)
        box.undo()
        box.push("s", "a", 3)
        self.assertEqual(box.told, (((0, 1), (("a", (1,)),)), ((0, 2), (("a", (3,)),))))
        self.assertEqual(box.tape, Tape(((0, "s", "a", 1), (0, "s", "a", 3))))


class Trials(unittest.TestCase):
    def box(self):
        box = live("(+ (late 3 2 (pick - s)) (every 2 z))")
        box.push("s", "a", 7)
        box.wait(2)
        box.push("s", "b", 7)
        box.wait(9)
        box.undo(2)
        return box

    def test_all_is_as_before(self):
        box = self.box()
        before = stand(box)
        for action in (
            lambda: None, lambda: box.wait(5), lambda: box.push("s", "a", 1), lambda: box.undo(), lambda: box.redo(2), lambda: box.undo(2),
            lambda: (box.undo(), box.wait(0), box.push("t", "a", 1), box.undo(2)), lambda: (box.redo(), box.redo(), box.wait(3)),
        ):
            with box.trial() as other:
                self.assertIs(other, box)
                action()
            self.assertEqual((stand(box), undone(box)), (before, 2))

    def test_steps_in_a_trial(self):
        box = self.box()
        with box.trial() as other:
            self.assertEqual(other.wait(1), (((3, 0), (("a", ()),)),))
            self.assertEqual((box.now, len(box), undone(box)), (3, 3, 0))
            other.undo(3)
            self.assertEqual((box.now, len(box), undone(box)), (0, 0, 3))
        self.assertEqual((box.now, len(box), undone(box)), (2, 2, 2))
        box.redo(2)
        self.assertEqual(box.now, 11)

    def test_an_error_goes_on(self):
        box = self.box()
        before = stand(box)
        for error, action in ((KeyError, lambda: {}["s"]), (InvalidNumber, lambda: box.wait(-1)), (NothingToUndo, lambda: box.undo(9)),
                              (ZeroDivisionError, lambda: 1 // 0), (KeyboardInterrupt, self.interrupt)):
            with self.assertRaises(error):
                with box.trial():
                    box.wait(5)
                    box.undo(3)
                    action()
            self.assertEqual((stand(box), undone(box)), (before, 2))

    def interrupt(self):
        raise KeyboardInterrupt

    def test_a_block_that_is_left_in_other_ways(self):
        box = self.box()
        before = stand(box)

        def left():
            with box.trial():
                box.wait(3)
                return box.now

        self.assertEqual(left(), 5)
        for _ in range(3):
            with box.trial():
                box.wait(3)
                break
        self.assertEqual((stand(box), undone(box)), (before, 2))

    def test_trials_in_trials(self):
        box = self.box()
        before = stand(box)
        with box.trial():
            box.wait(3)
            between = stand(box)
            with box.trial():
                box.push("s", "a", 1)
                box.undo(4)
                with self.assertRaises(InvalidTape):
                    with box.trial():
                        box.redo()
                        box.push("s", "A", 1)
                self.assertEqual((len(box), undone(box)), (0, 4))
            self.assertEqual((stand(box), undone(box)), (between, 0))
        self.assertEqual((stand(box), undone(box)), (before, 2))

    def test_the_beginning_of_the_block_counts(self):
        box = self.box()
        trial = box.trial()
        box.wait(4)
        before = stand(box)
        with trial as other:
            other.wait(4)
        self.assertEqual((stand(box), undone(box)), (before, 0))
        box.wait(1)
        before = stand(box)
        with trial:
            box.undo(2)
            with trial:
                box.redo()
            self.assertEqual(undone(box), 2)
        self.assertEqual((stand(box), undone(box)), (before, 0))

    def test_tried(self):
        box = self.box()
        before = stand(box)
        self.assertEqual(box.tried(lambda other: other.wait(1)), (((3, 0), (("a", ()),)),))
        self.assertIs(box.tried(lambda other: other), box)
        self.assertEqual(box.tried(lambda other: (other.redo(2), other.now)[1]), 11)
        self.assertEqual(box.tried(lambda other: other.tried(lambda third: third.undo(2)) or len(other)), 2)
        with self.assertRaises(InvalidTape):
            box.tried(lambda other: (other.undo(), other.push(None, None, None)))
        self.assertEqual((stand(box), undone(box)), (before, 2))


class Twins(unittest.TestCase):
    def test_independent(self):
        box = live("(+ (late 3 2 (pick - s)) (every 2 z))")
        box.push("s", "a", 7)
        box.wait(2)
        box.wait(5)
        box.undo()
        twin = box.twin()
        self.assertIsNot(twin, box)
        self.assertIsInstance(twin, Live)
        self.assertEqual((stand(twin), undone(twin)), (stand(box), 1))
        self.assertEqual(twin, box)
        before = stand(box)
        twin.redo()
        twin.wait(1)
        twin.undo(4)
        self.assertEqual((stand(box), undone(box)), (before, 1))
        other = stand(twin)
        box.push("s", "a", 1)
        self.assertEqual((stand(twin), undone(twin), undone(box)), (other, 4, 0))

    def test_in_a_trial(self):
        box = live("s")
        box.wait(3)
        with box.trial():
            box.push("s", "a", 1)
            twin = box.twin()
        self.assertEqual((len(box), len(twin)), (1, 2))
        with twin.trial():
            box.undo()
            twin.undo(2)
        self.assertEqual((len(box), len(twin)), (0, 2))


class Values(unittest.TestCase):
    def test_equal(self):
        one, other = live("(quiet 3 s)"), live("(quiet 3 s)")
        self.assertEqual(one, other)
        one.wait(3)
        self.assertNotEqual(one, other)
        other.wait(1)
        other.wait(2)
        self.assertEqual(one, other)
        self.assertFalse(one != other)
        one.push("s", "a", 1)
        other.push("s", "a", 2)
        self.assertNotEqual(one, other)
        other.undo()
        other.push("s", "a", 1)
        self.assertEqual(one, other)
        one.undo()
        one.redo()
        self.assertEqual(one, other)
        self.assertNotEqual(live("(quiet 3 s)"), live("(quiet 4 s)"))
        self.assertNotEqual(live("s"), live("t"))
        for value in junk() + [read_pipeline("s"), Tape(), S]:
            if not isinstance(value, Live):
                self.assertFalse(live("s") == value)
                self.assertTrue(live("s") != value)

    def test_text(self):
        box = live("(switch (quiet 3 s) (until t (after 5 z)))")
        self.assertEqual(str(box), "live pipeline of 6 parts at 0")
        box.wait(9)
        self.assertEqual(str(box), "live pipeline of 6 parts at 9")

    def test_it_cannot_be_iterated_over_or_changed(self):
        box = live("s")
        with self.assertRaises(TypeError):
            iter(box)
        for name in ("pipeline", "now", "state", "tape", "told"):
            with self.assertRaises(AttributeError):
                setattr(box, name, 0)

    def test_nothing_that_is_returned_changes(self):
        box = live("(every 1 z)")
        told, tape, state, pipeline = box.told, box.tape, box.state, box.pipeline
        news = box.wait(3)
        box.push("s", "a", 1)
        self.assertEqual((told, len(tape), tape.last, state, pipeline), ((), 0, 0, ("on", (), (0,)), read_pipeline("(every 1 z)")))
        self.assertEqual((len(news), type(news), type(box.told)), (3, tuple, tuple))
