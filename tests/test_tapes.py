import copy
import unittest

from pushalike.base.tapes import Tape
from pushalike.errors import InvalidLayout, InvalidNumber, InvalidOperation, InvalidTape, UnknownIndex
from tests.samples import MOST, junk, nested

ONE = (2, "s", "a", 7)
THREE = ((2, "s", "a", 7), (2, "t", "b", 8), (5, "s", "a", 7))


def is_number(value):
    return type(value) is int and 0 <= value <= MOST


class Made(unittest.TestCase):
    def right(self, events, last, kept):
        tape = Tape(events, last=last)
        self.assertEqual((tape.events, tape.last), (events, kept))

    def wrong(self, *events, **last):
        with self.assertRaises(InvalidTape):
            Tape(*events, **last)

    def test_events_and_last(self):
        for events, last, kept in (
            ((), None, 0), ((), 0, 0), ((), 4, 4), ((), MOST, MOST), ((ONE,), None, 2), ((ONE,), 2, 2), ((ONE,), 9, 9), (THREE, None, 5),
            (THREE, 5, 5), (THREE, MOST, MOST), (((0, "s", "a", 0),), None, 0), (((MOST, "s", "a", MOST),), None, MOST),
            (((MOST, "s", "a", -MOST),), MOST, MOST), (((0, "s", "a", 1), (0, "s", "a", 1)), 0, 0),
        ):
            self.right(events, last, kept)

    def test_without_arguments(self):
        self.assertEqual((Tape().events, Tape().last), ((), 0))
        self.assertEqual(Tape(last=3).last, 3)
        self.assertEqual(Tape(events=(ONE,)).events, (ONE,))
        with self.assertRaises(TypeError):
            Tape((), 3)

    def test_times_never_fall(self):
        self.wrong(((1, "s", "a", 1), (0, "s", "a", 1)))
        self.wrong(((0, "s", "a", 1), (2, "s", "a", 1), (1, "t", "a", 1)))
        self.wrong(((MOST, "s", "a", 1), (MOST - 1, "s", "a", 1)))

    def test_each_part_of_an_event(self):
        for time in (-1, MOST + 1, -MOST, 10 ** 99, True, False, None, "0", (0,), [0]):
            self.wrong(((time, "s", "a", 7),))
        for source in ("", "S", "it", "source", "abcdefghi", 1, None, ("s",), ["s"]):
            self.wrong(((0, source, "a", 7),))
        for letter in ("", "A", "ab", "-", 1, None, ("a",), ["a"]):
            self.wrong(((0, "s", letter, 7),))
        for value in (MOST + 1, -MOST - 1, True, False, None, "7", (7,), [7]):
            self.wrong(((0, "s", "a", value),))
            self.wrong((ONE, (9, "s", "a", value)))
        self.wrong((ONE[:3],))
        self.wrong((ONE + (1,),))
        self.wrong((list(ONE),))
        self.wrong((ONE, ()))

    def test_events_are_a_tuple(self):
        for events in ([], [ONE], ONE, {}, {ONE: 1}, "", None, 0, ((),), ((ONE,),)):
            self.wrong(events)

    def test_last(self):
        for events, least in (((), 0), ((ONE,), 2), (THREE, 5)):
            for last in (least - 1, -1, -MOST, MOST + 1, 10 ** 99, True, False, "9", (9,), [9], {}, ()):
                self.wrong(events, last=last)

    def test_values_of_every_kind(self):
        for value in junk():
            if value != ():
                self.wrong(value)
                self.wrong((value,))
                self.wrong((ONE, value))
                self.wrong((value, ONE))
            if value is not None and not is_number(value):
                self.wrong((), last=value)

    def test_both_wrong(self):
        self.wrong([ONE], last=-1)
        self.wrong(None, last=None)


class Shown(unittest.TestCase):
    def test_length_and_items(self):
        for events in ((), (ONE,), THREE):
            tape = Tape(events, last=9)
            self.assertEqual(len(tape), len(events))
            self.assertEqual([tape[index] for index in range(len(events))], list(events))

    def test_no_such_item(self):
        for events in ((), (ONE,), THREE):
            tape = Tape(events)
            for index in (len(events), -1, -len(events), MOST, MOST + 1, True, False, None, "0", (0,), [0], (), "s"):
                with self.assertRaises(UnknownIndex) as caught:
                    tape[index]
                self.assertEqual(caught.exception.index, index)
            for index in junk():
                if type(index) is not int or not 0 <= index < len(events):
                    with self.assertRaises(UnknownIndex) as caught:
                        tape[index]
                    self.assertIs(caught.exception.index, index)
        with self.assertRaises(UnknownIndex):
            Tape(THREE)[0:2]

    def test_a_tape_cannot_be_iterated_over(self):
        for tape in (Tape(), Tape(THREE)):
            for call in (iter, list, tuple, sorted, lambda tape: [event for event in tape], lambda tape: ONE in tape):
                with self.assertRaises(TypeError):
                    call(tape)

    def test_stamps(self):
        self.assertEqual(Tape().stamps(), ())
        self.assertEqual(Tape((ONE,), last=9).stamps(), ((2, 1),))
        self.assertEqual(Tape(THREE).stamps(), ((2, 1), (2, 2), (5, 1)))
        self.assertEqual(Tape(((0, "s", "a", 1),) * 12).stamps(), tuple((0, place) for place in range(1, 13)))

    def test_text(self):
        self.assertEqual(str(Tape()), "tape of 0 events up to 0")
        self.assertEqual(str(Tape((ONE,), last=9)), "tape of 1 events up to 9")
        self.assertEqual(str(Tape(THREE)), "tape of 3 events up to 5")
        self.assertEqual(str(Tape(last=MOST)), f"tape of 0 events up to {MOST}")

    def test_equal(self):
        self.assertEqual(Tape(THREE), Tape(THREE, last=5))
        self.assertFalse(Tape(THREE) != Tape(THREE, last=5))
        for other in (Tape(THREE, last=6), Tape(THREE[:2]), Tape(THREE[:2], last=5), Tape(), Tape(THREE[1:]), Tape((THREE[1], THREE[0], THREE[2]))):
            self.assertNotEqual(Tape(THREE), other)
        for value in junk() + [THREE, (THREE, 5), 5, [THREE], list(THREE)]:
            if not isinstance(value, Tape):
                self.assertFalse(Tape(THREE) == value)
                self.assertTrue(Tape(THREE) != value)
                self.assertFalse(value == Tape())

    def test_what_is_kept_cannot_be_changed(self):
        tape = Tape(THREE)
        for name in ("events", "last"):
            with self.assertRaises(AttributeError):
                setattr(tape, name, ())
        with self.assertRaises(TypeError):
            tape[0] = ONE


class Joined(unittest.TestCase):
    def test_one_after_another(self):
        one, other = Tape(THREE, last=6), Tape(((0, "t", "b", 1), (4, "s", "a", 7)), last=5)
        both = one + other
        self.assertEqual(both.events, THREE + ((6, "t", "b", 1), (10, "s", "a", 7)))
        self.assertEqual(both.last, 11)
        back = other + one
        self.assertEqual(back.events, other.events + ((7, "s", "a", 7), (7, "t", "b", 8), (10, "s", "a", 7)))
        self.assertEqual(back.last, 11)
        self.assertEqual((one, other), (Tape(THREE, last=6), Tape(((0, "t", "b", 1), (4, "s", "a", 7)), last=5)))

    def test_the_grouping_does_not_matter(self):
        a, b, c = Tape(THREE), Tape((ONE,), last=9), Tape(((0, "t", "b", 1),))
        self.assertEqual((a + b) + c, a + (b + c))
        self.assertEqual((a + b + c).last, 5 + 9 + 0)

    def test_with_itself_and_with_an_empty_one(self):
        tape = Tape((ONE,), last=3)
        self.assertEqual((tape + tape).events, (ONE, (5, "s", "a", 7)))
        self.assertEqual((tape + tape).last, 6)
        self.assertEqual(tape + Tape(), tape)
        self.assertEqual(Tape() + tape, tape)
        self.assertEqual(Tape(last=4) + tape, tape >> 4)
        self.assertEqual(tape + Tape(last=4), Tape((ONE,), last=7))

    def test_what_is_no_tape(self):
        for tape in (Tape(), Tape(THREE), Tape(last=MOST)):
            for value in junk() + [THREE, (), ONE]:
                if not isinstance(value, Tape):
                    with self.assertRaises(InvalidOperation):
                        tape + value

    def test_too_late(self):
        late = Tape(((MOST - 5, "s", "a", 1),))
        self.assertEqual((late + Tape((ONE,), last=5)).last, MOST)
        self.assertEqual((late + Tape(THREE)).events[-1], (MOST, "s", "a", 7))
        for one, other in ((late, Tape((ONE,), last=6)), (late, Tape(last=6)), (Tape(last=6), late), (late, late), (Tape(last=MOST), Tape(last=1))):
            with self.assertRaises(InvalidTape):
                one + other
        self.assertEqual(late, Tape(((MOST - 5, "s", "a", 1),)))

    def test_in_place_makes_another(self):
        tape = kept = Tape((ONE,))
        tape += tape
        self.assertEqual((len(tape), len(kept)), (2, 1))


class Later(unittest.TestCase):
    def test_everything_is_later(self):
        self.assertEqual(Tape(THREE, last=9) >> 0, Tape(THREE, last=9))
        self.assertEqual((Tape(THREE, last=9) >> 3).events, ((5, "s", "a", 7), (5, "t", "b", 8), (8, "s", "a", 7)))
        self.assertEqual((Tape(THREE, last=9) >> 3).last, 12)
        self.assertEqual(Tape() >> 4, Tape(last=4))

    def test_what_is_no_time(self):
        for value in junk() + [-1, True, None, "1", Tape()]:
            if not is_number(value):
                with self.assertRaises(InvalidNumber) as caught:
                    Tape(THREE) >> value
                self.assertIs(caught.exception.value, value)

    def test_too_late(self):
        self.assertEqual((Tape(THREE) >> MOST - 5).last, MOST)
        for tape in (Tape(THREE), Tape(last=5), Tape((ONE,), last=5)):
            with self.assertRaises(InvalidTape):
                tape >> MOST - 4
        self.assertEqual(Tape() >> MOST, Tape(last=MOST))
        with self.assertRaises(InvalidNumber):
            Tape(THREE) >> MOST + 1


class Parts(unittest.TestCase):
    def test_upto(self):
        tape = Tape(THREE, last=9)
        for time in range(10):
            self.assertEqual(tape.upto(time), Tape(tuple(event for event in THREE if event[0] <= time), last=time))
        self.assertEqual(len(tape.upto(1)), 0)
        self.assertEqual(len(tape.upto(2)), 2)
        self.assertEqual(tape.upto(9), tape)
        self.assertEqual(Tape().upto(0), Tape())
        self.assertEqual(len(tape), 3)

    def test_no_such_time(self):
        for value in junk() + [10, -1, MOST, MOST + 1, True, False, None, "3"]:
            if type(value) is not int or not 0 <= value <= 9:
                with self.assertRaises(InvalidNumber) as caught:
                    Tape(THREE, last=9).upto(value)
                self.assertIs(caught.exception.value, value)

    def test_changed_at_once(self):
        tape = Tape(((0, "s", "a", 1), (1, "s", "b", 2), (1, "t", "a", 3), (4, "s", "a", 1)), last=9)
        self.assertEqual([event[3] for event in tape.changed({1: 2, 2: 1}).events], [2, 1, 3, 2])
        self.assertEqual([event[3] for event in tape.changed({1: 2, 2: 3, 3: 4}).events], [2, 3, 4, 2])
        self.assertEqual(tape.changed({2: -MOST, 9: 1, -5: 3}).events[1], (1, "s", "b", -MOST))
        self.assertEqual(tape.changed({}), tape)
        self.assertEqual(tape.changed({1: 2}).last, 9)
        self.assertEqual(tape.events[0], (0, "s", "a", 1))
        self.assertEqual(Tape().changed({1: 2}), Tape())

    def test_a_table_stays_as_it_was(self):
        for table in ({1: 2, 2: 1}, {True: 1}, {1: [2]}, {"a": {"b": 1}}):
            before = copy.deepcopy(table)
            try:
                Tape(THREE).changed(table)
            except InvalidTape:
                pass
            self.assertEqual(table, before)
            self.assertEqual(list(table), list(before))

    def test_what_is_no_table(self):
        for tape in (Tape(), Tape(THREE)):
            for value in junk() + [
                {True: 1}, {1: True}, {False: 0}, {1: None}, {None: 1}, {1: "2"}, {"1": 2}, {MOST + 1: 1}, {1: MOST + 1}, {1: 2, 3: None},
                {(1,): 2}, {1: (2,)}, {1: [2]}, ((1, 2),), [(1, 2)], (1, 2), 1, None, "", (), [], {1: 2, 2: {}}, nested("dict", 20),
            ]:
                if value != {} or not isinstance(value, dict):
                    with self.assertRaises(InvalidTape):
                        tape.changed(value)

    def test_fits(self):
        tape = Tape(THREE)
        for layout, fits in (
            ({"s": ("a",), "t": ("b",)}, True), ({"s": ("a", "b"), "t": ("a", "b"), "u": ("a",)}, True), ({"s": ("a",)}, False),
            ({"t": ("b",)}, False), ({"s": ("b",), "t": ("b",)}, False), ({"s": ("a",), "t": ("a", "c")}, False), ({"u": ("a", "b")}, False),
        ):
            self.assertIs(tape.fits(layout), fits)
            self.assertIs(Tape(last=4).fits(layout), True)

    def test_what_is_no_layout(self):
        for tape in (Tape(), Tape(THREE)):
            for value in junk() + [{}, {"s": "a"}, {"s": ["a"]}, {"it": ("a",)}, {"s": ("b", "a")}, {name: ("a",) for name in "stuvw"}, None]:
                with self.assertRaises(InvalidLayout):
                    tape.fits(value)
