"""Pipelines read over tapes."""

import unittest

from pushalike.base.tapes import Tape
from pushalike.errors import InvalidPipeline, InvalidTape, TooMany
from pushalike.run.readings import MAX_CAUSES, difference, read
from pushalike.tree.pipelines import Pipeline
from pushalike.tree.texts import read_pipeline
from tests.chance import Chance
from tests.oracle import Machine
from tests.samples import MOST, S, junk


def tape(*rows, last=None):
    """A tape of rows like `"2 s a 7"`."""
    events = []
    for row in rows:
        time, source, letter, value = row.split()
        events.append((int(time), source, letter, int(value)))
    return Tape(tuple(events), last=last)


class Read(unittest.TestCase):
    def reads(self, text, over, *pairs):
        self.assertEqual(read(read_pipeline(text), over), pairs, text)

    def test_the_examples(self):
        self.reads("(switch (quiet 3 s) (then (after 2 z) (one y)))", tape("0 s a 1", "2 s a 2", "6 s a 3", last=12),
                   ((7, 0), (("z", ()), ("y", ()))), ((11, 0), (("z", ()), ("y", ()))))

    def test_without_events(self):
        self.reads("s", Tape())
        self.reads("s", Tape(last=MOST))
        self.reads("(one z)", Tape(), ((0, -1), (("z", ()), "end")))
        self.reads("(after 3 z)", Tape(last=2))
        self.reads("(after 3 z)", Tape(last=3), ((3, 0), (("z", ()), "end")))

    def test_several_events_at_one_time(self):
        self.reads("s", tape("2 s a 1", "2 s b 2", "2 t c 3", "2 s a 1"), ((2, 1), (("a", (1,)),)), ((2, 2), (("b", (2,)),)), ((2, 4), (("a", (1,)),)))
        self.reads("(first 2 s)", tape("0 t a 1", "0 s a 1", "0 s b 2", "0 s c 3", last=5), ((0, 2), (("a", (1,)),)), ((0, 3), (("b", (2,)), "end")))
        self.reads("(& s t)", tape("0 s a 1", "0 t b 2", "1 t b 3", "1 s a 4"), ((0, 2), (("b", (1, 2)),)), ((1, 1), (("b", (1, 3)),)), ((1, 2), (("a", (4, 3)),)))

    def test_events_around_the_time_at_which_a_clock_is_due(self):
        one = ((("a", (1,)),),)
        self.reads("(quiet 3 s)", tape("0 s a 1", "2 s b 2", last=5), ((5, 0), (("b", (2,)),)))
        self.reads("(quiet 3 s)", tape("0 s a 1", "2 s b 2", last=4))
        self.reads("(quiet 3 s)", tape("0 s a 1", "3 s b 2"), ((3, 0),) + one)
        self.reads("(quiet 3 s)", tape("0 s a 1", "4 s b 2", last=7), ((3, 0),) + one, ((7, 0), (("b", (2,)),)))
        self.reads("(spaced 3 s)", tape("0 s a 1", "2 s b 2", "3 s b 3", "3 s b 4", "4 s b 5"), ((0, 1),) + one, ((3, 1), (("b", (3,)),)))
        self.reads("(late 3 1 s)", tape("0 s a 1", "2 s b 2", "3 s b 3", "4 s b 4", last=6), ((3, 0),) + one, ((6, 0), (("b", (3,)),)))
        self.reads("(else 3 s t)", tape("2 s a 1", "5 s a 1", "5 t a 1"), ((2, 1),) + one, ((5, 2),) + one)
        self.reads("(else 3 s t)", tape("2 s a 1", "4 s a 1", "5 t a 1"), ((2, 1),) + one, ((4, 1),) + one)
        self.reads("(until s (after 3 z))", tape("2 s a 1", "3 s a 2", last=9), ((2, 1),) + one, ((3, 0), ("end",)))

    def test_several_clocks_that_are_due_at_one_moment(self):
        self.reads("(+ (after 4 y) (+ (every 2 x) (late 4 1 (pick - s))))", tape("0 s a 1", last=4), ((2, 0), (("x", ()),)),
                   ((4, 0), (("y", ()), ("x", ()), ("a", ()))))
        self.reads("(quiet 2 (quiet 2 s))", tape("0 s a 1", "2 s b 2", last=9), ((4, 0), (("a", (1,)),)), ((6, 0), (("b", (2,)),)))
        self.reads("(late 2 1 (late 2 1 s))", tape("0 s a 1", "2 s b 2", last=9), ((4, 0), (("a", (1,)),)), ((6, 0), (("b", (2,)),)))

    def test_the_moment_of_the_time_last(self):
        box = "(quiet 3 (+ s (only z t)))"
        self.reads(box, tape("4 s a 1", last=6))
        self.reads(box, tape("4 s a 1", last=7), ((7, 0), (("a", (1,)),)))
        self.reads(box, tape("4 s a 1", "7 t b 1"), ((7, 0), (("a", (1,)),)))
        self.reads("(every 2 z)", tape("4 s a 1", last=4), ((2, 0), (("z", ()),)), ((4, 0), (("z", ()),)))

    def test_begin_lists(self):
        self.reads("(+ (one y) (+ (one z) (after 2 x)))", Tape(last=2), ((0, -1), (("y", ()), ("z", ()))), ((2, 0), (("x", ()), "end")))
        self.reads("(switch (one y) (+ it (after 1 z)))", Tape(last=9), ((0, -1), (("y", ()),)), ((1, 0), (("z", ()), "end")))

    def test_parts_that_are_begun_late(self):
        self.reads("(then (after 2 y) (every 3 z))", Tape(last=8), ((2, 0), (("y", ()),)), ((5, 0), (("z", ()),)), ((8, 0), (("z", ()),)))
        self.reads("(again (then (pick - (first 1 s)) (after 2 z)))", tape("1 s a 1", "2 s a 1", "3 s b 2", "5 s a 3", last=5),
                   ((1, 1), (("a", ()),)), ((3, 0), (("z", ()),)), ((3, 1), (("b", ()),)), ((5, 0), (("z", ()),)), ((5, 1), (("a", ()),)))

    def test_values_that_are_equal_and_that_are_not(self):
        self.reads("(changes s)", tape("0 s a 1", "1 s a 1", "2 s b 1", "3 s a 2", "3 s a 1"), ((0, 1), (("a", (1,)),)), ((3, 1), (("a", (2,)),)),
                   ((3, 2), (("a", (1,)),)))

    def test_other_sources(self):
        self.reads("s", tape("0 t a 1", "1 u a 1", "2 abcdefgh z 1", last=5))
        self.reads("(quiet 2 s)", tape("0 s a 1", "1 t a 1", last=5), ((2, 0), (("a", (1,)),)))

    def test_long_times(self):
        late = MOST - 3
        self.reads("(quiet 3 s)", tape(f"{late} s a 7", last=MOST), ((MOST, 0), (("a", (7,)),)))
        self.reads("(quiet 4 s)", tape(f"{late} s a 7", last=MOST))
        self.reads(f"(after {10 ** 40 - 1} z)", Tape(last=MOST), ((10 ** 40 - 1, 0), (("z", ()), "end")))

    def test_by_chance_beside_a_second_reading_of_the_document(self):
        for seed in range(1500):
            chance = Chance(seed)
            box, over = chance.pipeline(), chance.tape()
            self.assertEqual(read(box, over), Machine(box.tree).run(over), (box.tree, over.events, over.last))


class Difference(unittest.TestCase):
    def differs(self, one, other, over, found):
        one, other = read_pipeline(one), read_pipeline(other)
        self.assertEqual(difference(one, other, over), found)
        self.assertEqual(difference(other, one, over), found if found is None else (found[0], found[2], found[1]))

    def test_the_example(self):
        self.differs("(quiet 5 (quiet 3 s))", "(quiet 8 s)", tape("0 s a 1", "6 s a 2", last=20), ((8, 0), (("a", (1,)),), ()))

    def test_at_the_begin(self):
        self.differs("(one z)", "(one y)", Tape(), ((0, -1), (("z", ()), "end"), (("y", ()), "end")))
        self.differs("(one z)", "(after 1 z)", tape("0 s a 1", last=3), ((0, -1), (("z", ()), "end"), ()))
        self.differs("(one z)", "(never 4)", Tape(), ((0, -1), (("z", ()), "end"), ()))

    def test_at_an_event(self):
        self.differs("s", "(first 2 s)", tape("0 s a 1", "4 s a 1", last=9), ((4, 1), (("a", (1,)),), (("a", (1,)), "end")))
        self.differs("s", "(changes s)", tape("0 s a 1", "0 s b 1"), ((0, 2), (("b", (1,)),), ()))
        self.differs("(until s t)", "s", tape("1 s a 1", "1 t a 1"), ((1, 2), ("end",), ()))

    def test_at_a_moment(self):
        self.differs("(quiet 2 s)", "(quiet 3 s)", tape("0 s a 1", last=9), ((2, 0), (("a", (1,)),), ()))
        self.differs("(quiet 2 s)", "(late 2 1 s)", tape("0 s a 1", "1 s b 2", last=9), ((2, 0), (), (("a", (1,)),)))
        self.differs("(quiet 2 s)", "(late 2 1 s)", tape("0 s a 1", "1 s b 2"), None)

    def test_in_the_order_of_a_list(self):
        one, other = "(+ s (fold 0a0b s))", "(+ (fold 0a0b s) s)"
        self.differs(one, other, tape("0 s b 1", "3 s a 1"), ((3, 1), (("a", (1,)), ("b", (1,))), (("b", (1,)), ("a", (1,)))))

    def test_at_several_causes_the_first_one(self):
        self.differs("(fold 0a0b s)", "s", tape("0 t a 1", "1 s a 1", "1 s a 2", "3 s b 1"), ((1, 1), (("b", (1,)),), (("a", (1,)),)))
        self.differs("(every 3 z)", "(every 2 z)", Tape(last=9), ((2, 0), (), (("z", ()),)))

    def test_never(self):
        self.differs("(until s s)", "(first 1 s)", tape("0 s a 1", "1 s b 2", last=5), None)
        self.differs("s", "(pick 0 s)", tape("0 s a 1", "1 s b 2", last=5), None)
        self.differs("(again (after 2 z))", "(every 2 z)", Tape(last=50), None)
        self.differs("s", "s", Tape(), None)
        self.differs("s", "(never 0)", tape("0 t a 1"), None)

    def test_by_chance(self):
        for seed in range(300):
            chance = Chance(seed)
            one, other, over = chance.pipeline(), chance.pipeline(), chance.tape()
            lists = [dict(read(box, over)) for box in (one, other)]
            found = None
            for stamp in sorted(set(lists[0]) | set(lists[1])):
                told = tuple(each.get(stamp, ()) for each in lists)
                if told[0] != told[1]:
                    found = (stamp,) + told
                    break
            self.assertEqual(difference(one, other, over), found)


class Errors(unittest.TestCase):
    def test_the_constant(self):
        self.assertEqual((MAX_CAUSES, type(MAX_CAUSES)), (1000, int))

    def test_what_is_no_pipeline(self):
        box = read_pipeline("s")
        for value in junk() + [S, "s", (box,)]:
            if not isinstance(value, Pipeline):
                for other in (Tape(), None, ()):
                    for call in (lambda: read(value, other), lambda: difference(value, box, other), lambda: difference(box, value, other),
                                 lambda: difference(value, value, other)):
                        with self.assertRaises(InvalidPipeline):
                            call()

    def test_what_is_no_tape(self):
        box = read_pipeline("s")
        for value in junk() + [((0, "s", "a", 1),), ()]:
            if not isinstance(value, Tape):
                with self.assertRaises(InvalidTape):
                    read(box, value)
                with self.assertRaises(InvalidTape):
                    difference(box, box, value)

    def too_many(self, *arguments):
        call = read if len(arguments) == 2 else difference
        with self.assertRaises(TooMany) as caught:
            call(*arguments)
        self.assertEqual(caught.exception.limit, 1000)

    def test_a_thousand_causes_and_one_more_of_events(self):
        box = read_pipeline("s")
        for rows in (["0 s a 1"] * 999, ["0 t a 1"] * 999, [f"{k} t a 1" for k in range(999)]):
            read(box, tape(*rows, last=MOST))
            self.assertIs(difference(box, box, tape(*rows)), None)
            self.too_many(box, tape(*rows, "999 s a 1"))
            self.too_many(box, box, tape(*rows, "999 s a 1"))
        self.too_many(read_pipeline("(one z)"), tape(*["0 s a 1"] * 1000))

    def test_a_thousand_causes_and_one_more_of_moments(self):
        for text, told in (("(every 1 z)", 999), ("(only a (every 1 z))", 0), ("(quiet 5 (every 1 z))", 0), ("(every 7 z)", 999)):
            box, d = read_pipeline(text), 7 if "7" in text else 1
            self.assertEqual(len(read(box, Tape(last=999 * d))), told)
            self.assertEqual(len(read(box, Tape(last=1000 * d - 1))), told)
            self.too_many(box, Tape(last=1000 * d))
            self.too_many(box, Tape(last=MOST))

    def test_both(self):
        box = read_pipeline("(only a (every 2 z))")
        rows = [f"{k} s a 1" for k in range(500)]
        self.assertEqual(read(box, tape(*rows, last=998 + 1)), ())
        self.too_many(box, tape(*rows, last=1000))
        self.assertEqual(read(box, tape(*["0 s a 1"] * 998, last=3)), ())
        self.too_many(box, tape(*["0 s a 1"] * 998, last=4))
        self.too_many(box, tape(*["0 s a 1"] * 997, "4 s a 1"))
        self.too_many(box, tape(*["9 s a 1"] * 1000))

    def test_two_clocks_that_are_due_at_one_moment_are_one_cause(self):
        box = read_pipeline("(+ (every 1 y) (+ (every 2 z) (every 3 x)))")
        self.assertEqual(len(read(box, Tape(last=999))), 999)
        self.too_many(box, Tape(last=1000))

    def test_the_causes_of_each_are_counted_alone(self):
        two, three = read_pipeline("(every 2 z)"), read_pipeline("(every 3 z)")
        self.assertEqual(difference(two, three, Tape(last=1999))[0], (2, 0))
        self.too_many(two, three, Tape(last=2000))
        self.too_many(three, two, Tape(last=2000))
        self.assertEqual(difference(read_pipeline("(one z)"), two, Tape(last=1999))[0], (0, -1))
        self.too_many(read_pipeline("(one z)"), two, Tape(last=2000))
        self.too_many(two, read_pipeline("(one z)"), Tape(last=2000))

    def test_nothing_is_kept(self):
        box, over = read_pipeline("(quiet 3 s)"), tape("0 s a 1", last=5)
        self.assertEqual(read(box, over), read(box, over))
        self.assertEqual((over.events, over.last, box.tree), (((0, "s", "a", 1),), 5, ("quiet", 3, S)))
