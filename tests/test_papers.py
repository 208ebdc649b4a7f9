"""Papers that are found: beside a plain search, from starts on, within limits; papers turned, and tapes hastened."""

import unittest
from itertools import combinations_with_replacement

from pushalike.base.tapes import Tape
from pushalike.errors import InvalidLayout, InvalidNumber, InvalidOperation, InvalidPaper, InvalidPipeline, InvalidState, InvalidTape, TooMany
from pushalike.joint.monitors import Monitor, Watch
from pushalike.joint.papers import are_alike, find_paper, hastened, is_paper, turned
from pushalike.joint.stands import Pair, plans_of
from pushalike.joint.turns import turned_stand
from pushalike.run.readings import difference
from pushalike.run.states import begin
from pushalike.tree.pipelines import Pipeline
from pushalike.tree.texts import read_pipeline
from tests.chance import Chance
from tests.oracle import Machine
from tests.plain import all_causes, fewest_events, judge, reached, ways_over
from tests.samples import junk

SMALL = {"s": ("a",)}
BOTH = {"s": ("a", "b"), "t": ("a",)}
OTHERS = {"s": ("a",), "u": ("a", "b"), "v": ("c",)}
# Two texts, and with how few events they are parted, or None.
KNOWN = (
    ("s", "(only ab s)", None), ("s", "(only a s)", 1), ("(never 1)", "(only c s)", None), ("(one z)", "(after 1 z)", 0), ("(after 3 z)", "(after 4 z)", 0),
    ("(after 3 z)", "(first 1 (every 3 z))", None), ("(every 2 z)", "(again (after 2 z))", None), ("(every 2 z)", "(again (after 3 z))", 0),
    ("(only a (only ab s))", "(only a s)", None), ("(pick 0 s)", "s", None), ("(pick 0,0 s)", "(pick 0,0 (pick 0 s))", None),
    ("(pick 0 (pairs s))", "(pick 1 (pairs s))", 2), ("(fold 0a0a,0b0b s)", "s", None), ("(fold 0a1a,1a0- s)", "(only a s)", 2),
    ("(first 2 s)", "(first 3 s)", 2), ("(first 1 s)", "(until s s)", None), ("(changes s)", "s", 2), ("(changes (changes s))", "(changes s)", None),
    ("(pairs s)", "(& s s)", 1), ("(pick 1 (pairs s))", "s", 1), ("(quiet 2 s)", "(late 2 1 s)", 2), ("(quiet 2 (first 1 s))", "(late 2 1 (first 1 s))", 1),
    ("(spaced 2 s)", "(spaced 3 s)", 2), ("(spaced 3 s)", "(spaced 2 (spaced 3 s))", None), ("(late 2 3 s)", "(late 2 2 s)", 3),
    ("(late 2 1 (first 1 s))", "(late 1 1 (late 1 1 (first 1 s)))", None), ("(again (first 1 s))", "s", None), ("(again (first 2 s))", "(first 2 s)", 2),
    ("(+ s t)", "(+ t s)", None), ("(+ s s)", "s", 1), ("(& s t)", "(& t s)", 2), ("(at s t)", "(at s (first 2 t))", 2), ("(at s s)", "s", None),
    ("(at s t)", "(at (until s (never 0)) t)", None), ("(until s t)", "(until (until s t) t)", None), ("(until s t)", "(until s (quiet 1 t))", 1),
    ("(then (first 1 s) s)", "s", None), ("(then (first 1 s) t)", "(then (first 2 s) t)", 2), ("(else 3 s t)", "(else 2 s t)", 1),
    ("(else 2 s (never 1))", "(until s (quiet 2 (+ (one a) (pick - s))))", 0), ("(switch s it)", "s", None), ("(busy s it)", "s", None),
    ("(switch s (after 2 z))", "(busy s (after 2 z))", 2), ("(switch s (+ it t))", "(busy s (+ it t))", 2),
    ("(switch s (else 2 (never 1) it))", "(quiet 2 s)", None), ("(switch s (switch it it))", "s", None), ("(switch (first 2 s) (until t t))", "(switch (first 2 s) (first 1 t))", None),
    ("(quiet 2 (quiet 2 s))", "(quiet 4 s)", 2), ("(quiet 5 (quiet 3 s))", "(quiet 8 s)", 2), ("(busy s (first 2 (+ it t)))", "(busy s (until (+ it t) t))", None),
)
LONG = 10 ** 39


def pair_of(one, other, layout=None):
    return Pair(read_pipeline(one), read_pipeline(other), layout or BOTH)


class Checks(unittest.TestCase):
    def is_right(self, pair, paper, start=None):
        """All that is told of a paper that is found, but whether there is one with fewer events or of the other kind."""
        self.assertTrue(is_paper(pair, paper, start=start))
        if len(paper[-1]) < 80:
            self.assertTrue(judge(pair, paper, start))
        if paper[0] == "list":
            self.assertEqual(paper, ("list", tuple(reached(pair, start))))
            return
        _, events, last, rounds = paper
        kept = [] if start is None else list(start[0][1] + start[1][1])
        news = list(dict.fromkeys(event[3] for event in events if event[3] not in kept))
        self.assertEqual(news, [value for value in range(len(kept) + len(news)) if value not in kept][:len(news)])
        if start is None:
            tape = Tape(events, last=last)
            self.assertEqual(hastened(pair, tape), tape)


class Found(Checks):
    def found(self, pair, start=None, limit=900):
        paper = find_paper(pair, start=start, limit=limit)
        self.is_right(pair, paper, start)
        alike = are_alike(pair.left, pair.right, pair.layout, start=start, limit=limit)
        self.assertIs(alike, paper[0] == "list")
        return paper

    def test_the_examples(self):
        self.assertEqual(find_paper(pair_of("(until s s)", "(first 1 s)", SMALL)),
                         ("list", (("over", "over", (), ((0,),)), (("on", "on"), (1, "on"), (), ((0,),)))))
        pair = pair_of("(quiet 2 s)", "(late 2 1 s)", SMALL)
        start = pair.begin()[0]
        rounds = ((start,), (pair.follow(start, ("event", "s", "a", 0))[0],))
        self.assertIs(is_paper(pair, ("row", ((0, "s", "a", 0), (0, "s", "a", 1)), 2, rounds)), True)
        tape = hastened(pair, Tape(((3, "s", "a", 0), (7, "s", "a", 0), (8, "s", "a", 1)), last=20))
        self.assertEqual([tape.events, tape.last], [((0, "s", "a", 0), (2, "s", "a", 0), (3, "s", "a", 1)), 5])

    def test_known_pairs(self):
        for one, other, few in KNOWN:
            for layout in (BOTH, dict(OTHERS, **BOTH)):
                pair = pair_of(one, other, layout)
                paper = self.found(pair)
                self.assertEqual(None if paper[0] == "list" else len(paper[1]), few, (one, other))
            if few is not None:
                read = difference(pair.left, pair.right, Tape(paper[1], last=paper[2]))
                self.assertEqual(read[0][0], paper[2])

    def test_by_chance_beside_a_plain_search(self):
        kinds = []
        for seed in range(500):
            pair = Pair(*Chance(seed).near_pair(6), BOTH)
            few = fewest_events(pair, most=250)
            if few != "many":
                paper = self.found(pair)
                self.assertEqual(None if paper[0] == "list" else len(paper[1]), few, (pair.left.tree, pair.right.tree))
                kinds.append(few)
        self.assertGreater(min(kinds.count(few) for few in (None, 0, 1, 2, 3)), 8)

    def test_what_both_pipelines_tell_on_the_tape(self):
        for seed in range(300):
            pair = Pair(*Chance(seed).near_pair(7), BOTH)
            try:
                paper = find_paper(pair, limit=100)
            except TooMany:
                continue
            if paper[0] == "row":
                tape = Tape(paper[1], last=paper[2])
                one, other = [dict(Machine(pipeline.tree).run(tape)) for pipeline in (pair.left, pair.right)]
                apart = [stamp for stamp in sorted([*one, *other]) if one.get(stamp, ()) != other.get(stamp, ())]
                self.assertEqual((apart[0], apart[0][0]), (apart[-1], tape.last))
                if tape.events and tape.events[-1][0] == tape.last:
                    self.assertEqual(apart[0], tape.stamps()[-1])

    def test_alike_pipelines_tell_the_same(self):
        many = 0
        for seed in range(300):
            chance = Chance(seed)
            pair = Pair(*chance.near_pair(7), BOTH)
            try:
                if find_paper(pair, limit=100)[0] == "row":
                    continue
            except TooMany:
                continue
            for _ in range(5):
                tape = chance.tape(10)
                events = tuple((time, source, letter if letter in BOTH[source] else "a", value) for time, source, letter, value in tape.events)
                self.assertIsNone(difference(pair.left, pair.right, Tape(events, last=tape.last)))
            many += 1
        self.assertGreater(many, 50)

    def test_parted_at_the_begin(self):
        for one, other in (("(one z)", "(one y)"), ("(+ (one z) (never 0))", "(one z)"), ("(one z)", "(never 0)")):
            for limit in (1, 900):
                self.assertEqual(find_paper(pair_of(one, other), limit=limit), ("row", (), 0, ()))

    def test_parted_at_a_moment_without_events(self):
        self.assertEqual(find_paper(pair_of("(after 3 z)", "(after 4 z)")), ("row", (), 3, ()))
        self.assertEqual(find_paper(pair_of("(every 2 z)", "(+ (after 2 z) (+ (after 4 z) (after 6 z)))")), ("row", (), 6, ()))
        self.assertEqual(find_paper(pair_of("(after 2 z)", "(then (after 1 y) (after 1 z))")), ("row", (), 1, ()))
        self.assertEqual(find_paper(pair_of(f"(after {LONG} z)", f"(after {LONG + 1} z)")), ("row", (), LONG, ()))

    def test_parted_at_an_event(self):
        start = ("on", ("on",), (), ((0,),))
        self.assertEqual(find_paper(pair_of("s", "(only b s)")), ("row", ((0, "s", "a", 0),), 0, ((start,),)))

    def test_values(self):
        paper = find_paper(pair_of("(pick 0 (changes (pairs s)))", "(pick 0 (pairs s))", SMALL))
        self.assertEqual((paper[1], paper[2]), (((0, "s", "a", 0), (0, "s", "a", 0), (0, "s", "a", 0)), 0))
        paper = find_paper(pair_of("(changes s)", "(first 1 s)", SMALL))
        self.assertEqual(paper[1], ((0, "s", "a", 0),))
        paper = find_paper(pair_of("(pick 1 (pairs (changes s)))", "(pick 1 (pairs s))", SMALL))
        self.assertEqual(paper[1], ((0, "s", "a", 0), (0, "s", "a", 0)))
        paper = find_paper(pair_of("(+ (changes s) (never 1))", "(+ (first 1 s) (never 1))", SMALL))
        self.assertEqual(paper[1], ((0, "s", "a", 0), (0, "s", "a", 1)))

    def test_clocks_of_great_numbers(self):
        d = LONG
        for one, other, few in (
            (f"(quiet {d} s)", f"(quiet {d + 1} s)", 1), (f"(spaced {d} s)", f"(spaced {d} (spaced {d} s))", None), (f"(spaced {d} s)", f"(spaced {d - 1} s)", 2),
            (f"(late {d} 1 (first 1 s))", f"(quiet {d} (first 1 s))", 1), (f"(late {2 * d} 1 (first 1 t))", f"(late {d} 1 (late {d} 1 (first 1 t)))", None),
            (f"(quiet {d} (quiet {d + 3} s))", f"(quiet {2 * d + 3} s)", 2), (f"(else {d} s t)", f"(else {d - 7} s t)", 1),
            (f"(until s (after {d} z))", f"(until s (after {d + 1} y))", 0), (f"(& (quiet {d} s) (late {d - 1} 2 t))", f"(& (quiet {d} s) (late {d} 2 t))", 2),
        ):
            paper = self.found(pair_of(one, other))
            self.assertEqual(None if paper[0] == "list" else len(paper[1]), few, (one, other))

    def test_two_timers_reach_at_most_as_many_as_their_common_multiple(self):
        for one, other, many in ((2, 3, 6), (4, 6, 12), (5, 7, 35), (1, 9, 9), (8, 8, 8)):
            pair = pair_of(f"(+ (pick - (every {one} z)) (only a (every {other} z)))", f"(+ (every {one} z) (only b (every {other} z)))")
            self.assertLessEqual(len(find_paper(pair, limit=many)[1]), many)

    def test_sources_that_nobody_hears(self):
        pair = pair_of("(spaced 3 s)", "(spaced 2 (spaced 3 s))", dict(SMALL, **OTHERS))
        self.assertEqual(self.found(pair), find_paper(pair_of("(spaced 3 s)", "(spaced 2 (spaced 3 s))", SMALL)))
        self.assertEqual(self.found(pair_of("(never 1)", "(only a (never 1))", OTHERS)), ("list", (("on", ("on",), (), ((0,),)),)))


class Starts(Checks):
    def test_from_states_that_are_reached_and_that_are_not(self):
        kinds = []
        for seed in range(250):
            chance = Chance(seed)
            pair = Pair(*chance.near_pair(6), BOTH)
            stands = [pair.begin()[0]]
            for _ in range(6):
                stands.append(pair.follow(stands[-1], chance.one_of(pair.ways(stands[-1])))[0])
            stand = chance.one_of(stands)
            shift = chance.one_of([0, 1, 5, -3])
            start = self.states_of(pair, stand, lambda number: 2 * number + shift)
            few = fewest_events(pair, start, most=250)
            if few == "many":
                continue
            paper = find_paper(pair, start=start, limit=900)
            self.is_right(pair, paper, start)
            self.assertEqual(None if paper[0] == "list" else len(paper[1]), few, (pair.left.tree, pair.right.tree, start))
            self.assertIs(are_alike(pair.left, pair.right, BOTH, start=start), paper[0] == "list")
            if paper[0] == "row":
                self.no_earlier_cause(pair, paper, start)
            kinds.append(few)
        self.assertGreater(min(kinds.count(few) for few in (None, 0, 1, 2)), 8)

    def states_of(self, pair, stand, value_of):
        """Two states that the stand has, with the least readings."""
        many = sum(1 for _ in stand[2])
        for cut in range(many + 1):
            values = tuple(value_of(number) for number in stand[2])
            readings = tuple(-most for most in stand[3][0][1:])
            for at in range(len(readings) + 1):
                states = (stand[0], values[:cut], readings[:at]), (stand[1], values[cut:], readings[at:])
                try:
                    if pair.has(stand, *states):
                        return states
                except InvalidState:
                    pass
        raise AssertionError("the stand has no such states")

    def no_earlier_cause(self, pair, paper, start):
        """No tape with the same events at other times has all the same causes and one of them earlier."""
        tape = Tape(paper[1], last=paper[2])
        lists = [cause[1:] for cause in all_causes(pair, tape, start)]
        times = [cause[0][0] for cause in all_causes(pair, tape, start)]
        if len(tape) > 2 or tape.last > 12:
            return
        for other in combinations_with_replacement(range(tape.last + 1), len(tape)):
            events = tuple((time,) + event[1:] for time, event in zip(other, tape.events))
            causes = all_causes(pair, Tape(events, last=tape.last), start)
            kinds = [cause[0][1] > 0 for cause in causes]
            if kinds == [cause[0][1] > 0 for cause in all_causes(pair, tape, start)] and [cause[1:] for cause in causes] == lists:
                self.assertFalse(all(one[0][0] <= time for one, time in zip(causes, times)) and [one[0][0] for one in causes] != times)

    def test_values_that_are_kept(self):
        pair = pair_of("(changes s)", "s", SMALL)
        for value, events in ((0, ((0, "s", "a", 0),)), (7, ((0, "s", "a", 7),)), (-5, ((0, "s", "a", -5),))):
            paper = find_paper(pair, start=(((1, "on"), (value,), ()), ("on", (), ())))
            self.assertEqual(paper[1:3], (events, 0))
        pair = pair_of("(until (changes s) (changes t))", "(until (changes s) (first 1 (changes t)))", {"s": ("a",), "t": ("a",)})
        start = (((1, "on"), (1, "on")), (1, 0), ()), (((1, "on"), (1, (1, "on"))), (1, 0), ())
        self.assertTrue(are_alike(pair.left, pair.right, pair.layout, start=start))
        pair = pair_of("(changes s)", "(never 1)", SMALL)
        for value, other in ((0, 1), (1, 0), (10 ** 60 - 1, 0), (-1, 0)):
            self.assertEqual(find_paper(pair, start=(((1, "on"), (value,), ()), ("on", (), ())))[1], ((0, "s", "a", other),))

    def test_no_begin_list_is_heard(self):
        pair = pair_of("(+ (one z) (never 0))", "(+ (one y) (never 0))")
        self.assertEqual(find_paper(pair), ("row", (), 0, ()))
        start = (("over", "on"), (), ()), (("over", "on"), (), ())
        self.assertEqual(find_paper(pair, start=start), ("list", ((("over", "on"), ("over", "on"), (), ((0,),)),)))
        self.assertFalse(is_paper(pair, ("row", (), 0, ()), start=start))
        self.assertFalse(is_paper(pair, find_paper(pair, start=start)))

    def test_the_time_begins_anew(self):
        pair = pair_of("(quiet 5 s)", "(quiet 6 s)", SMALL)
        start = (("a", "on"), (7,), (3,)), (("a", "on"), (7,), (4,))
        paper = find_paper(pair, start=start)
        self.assertEqual(paper[1:3], (((0, "s", "a", 7),), 5))
        self.is_right(pair, paper, start)
        self.assertEqual(find_paper(pair, start=((("a", "on"), (7,), (3,)), (("a", "on"), (8,), (4,)))), ("row", (), 2, ()))
        self.assertEqual(find_paper(pair, start=((("a", "on"), (7,), (3,)), (("a", "on"), (7,), (3,)))), ("row", (), 2, ()))

    def test_other_pipelines_that_are_alike_from_a_start_on(self):
        one, other = read_pipeline("(first 3 s)"), read_pipeline("(first 2 s)")
        self.assertTrue(are_alike(one, other, SMALL, start=(((2, "on"), (), ()), ((2, "on"), (), ()))))
        self.assertFalse(are_alike(one, other, SMALL, start=(((1, "on"), (), ()), ((2, "on"), (), ()))))
        self.assertTrue(are_alike(one, other, SMALL, start=(("over", (), ()), ("over", (), ()))))
        self.assertFalse(are_alike(one, other, SMALL))


class Limits(Checks):
    def test_pairs_that_are_alike(self):
        for one, other, few in KNOWN:
            pair = pair_of(one, other)
            if few is None:
                many = len(find_paper(pair, limit=900)[1])
                self.assertEqual(len(find_paper(pair, limit=many)[1]), many)
                if many > 1:
                    for limit in (many - 1, 1):
                        for call in (lambda: find_paper(pair, limit=limit), lambda: are_alike(pair.left, pair.right, BOTH, limit=limit)):
                            with self.assertRaises(TooMany) as caught:
                                call()
                            self.assertEqual(caught.exception.limit, limit)

    def test_pairs_that_are_not_alike(self):
        for one, other, few in KNOWN:
            pair = pair_of(one, other)
            if few is not None:
                many = len(reached(pair))
                self.assertEqual(find_paper(pair, limit=max(1, min(many, 900)))[0], "row")
                for limit in (many - 1, 1):
                    try:
                        if limit >= 1:
                            self.is_right(pair, find_paper(pair, limit=limit))
                    except TooMany as error:
                        self.assertEqual((error.limit, many > limit), (limit, True))

    def test_limits_from_a_start_on(self):
        pair = pair_of("(first 9 s)", "(first 9 s)", SMALL)
        for left in range(1, 10):
            start = ((left, "on"), (), ()), ((left, "on"), (), ())
            self.assertEqual(len(find_paper(pair, start=start, limit=left + 1)[1]), left + 1)
            self.assertRaises(TooMany, find_paper, pair, start=start, limit=left)

    def test_the_limit_that_is_not_passed(self):
        twin = pair_of("(+ (first 9 s) (+ (first 9 t) (first 4 u)))", "(+ (first 9 s) (+ (first 9 t) (first 4 u)))", {"s": ("a",), "t": ("a",), "u": ("a",)})
        self.assertEqual(len(find_paper(twin)[1]), 500)
        more = pair_of("(+ (first 9 s) (+ (first 9 t) (first 5 u)))", "(+ (first 9 s) (+ (first 9 t) (first 5 u)))", twin.layout)
        for call in (lambda: find_paper(more), lambda: are_alike(more.left, more.right, more.layout)):
            with self.assertRaises(TooMany) as caught:
                call()
            self.assertEqual(caught.exception.limit, 500)
        self.assertEqual(len(find_paper(more, limit=600)[1]), 600)


class Turned(Checks):
    def test_turned_and_turned_again(self):
        for seed in range(150):
            pair = Pair(*Chance(seed).near_pair(6), BOTH)
            try:
                paper = find_paper(pair, limit=100)
            except TooMany:
                continue
            back = Pair(pair.right, pair.left, BOTH)
            other = turned(pair, paper)
            self.assertTrue(judge(back, other))
            self.assertEqual(other[0], paper[0])
            if paper[0] == "list":
                self.assertEqual(other, find_paper(back, limit=100))
                self.assertEqual(turned(back, other), paper)
            else:
                self.assertEqual(other[:3], paper[:3])
                self.assertEqual(turned(back, other), paper[:3] + (tuple(tuple(sorted(stands, key=repr)) for stands in paper[3]),))

    def test_the_same_pairs_of_states(self):
        pair = pair_of("(& (quiet 3 s) (changes t))", "(late 3 2 (& s t))", {"s": ("a",), "t": ("a",)})
        back = Pair(pair.right, pair.left, pair.layout)
        stand = pair.begin()[0]
        chance = Chance(3)
        for _ in range(40):
            shape, other, numbers, rows = stand
            one = turned_stand_of(pair, stand)
            self.assertTrue(back.is_stand(one))
            for _ in range(4):
                readings = tuple(chance.random.randint(0, 2) for _ in rows[1:])
                for cut in range(len(numbers) + 1):
                    for at in range(len(readings) + 1):
                        states = (shape, numbers[:cut], readings[:at]), (other, numbers[cut:], readings[at:])
                        try:
                            self.assertIs(back.has(one, states[1], states[0]), pair.has(stand, *states))
                        except InvalidState:
                            pass
            stand = pair.follow(stand, chance.one_of(pair.ways(stand)))[0]

    def test_stands_ascend_without_duplicates(self):
        pair = pair_of("(changes (first 2 s))", "(first 1 s)", SMALL)
        paper = find_paper(pair)
        stands = paper[3][-1] + paper[3][0] + paper[3][-1]
        spread = ("row", paper[1], paper[2], (paper[3][0] * 3,) + paper[3][1:])
        self.assertTrue(is_paper(pair, spread))
        self.assertEqual(turned(pair, spread), turned(pair, paper))
        self.assertGreater(len(stands), 2)

    def test_errors(self):
        pair = pair_of("(until s s)", "(first 1 s)", SMALL)
        paper = find_paper(pair)
        for value in junk():
            if not isinstance(value, Pair):
                self.assertRaises(InvalidOperation, turned, value, paper)
                self.assertRaises(InvalidOperation, turned, value, None)
            self.assertRaises(InvalidPaper, turned, pair, value)
        watch = Watch(pair.left, Monitor.of(pair.right.tree), SMALL)
        self.assertRaises(InvalidOperation, turned, watch, find_paper(watch))
        self.assertRaises(InvalidOperation, turned, watch, None)
        self.assertRaises(InvalidPaper, turned, pair, ("list", paper[1][:1]))
        start = (("over", (), ()), ("over", (), ()))
        self.assertRaises(InvalidPaper, turned, pair, find_paper(pair, start=start))


def turned_stand_of(pair, stand):
    """The stand turned round, as the joint stand of the other pair with the same pairs of states."""
    return turned_stand(plans_of(pair), stand)


class Hastened(Checks):
    def same_ways(self, pair, tape, other):
        return [way for _, way in ways_over(pair, tape)] == [way for _, way in ways_over(pair, other)]

    def test_beside_all_other_times(self):
        many = 0
        for seed in range(200):
            chance = Chance(seed)
            pair = Pair(*chance.near_pair(6), {"s": ("a", "b"), "t": ("a", "c")})
            time, events = 0, []
            for _ in range(chance.random.randint(0, 3)):
                time += chance.one_of([0, 1, 2, 3])
                events.append((time,) + chance.event())
            tape = Tape(tuple(events), last=time + chance.random.randint(0, 4))
            causes = ways_over(pair, tape)
            fast = hastened(pair, tape)
            quick = ways_over(pair, fast)
            self.assertEqual([way for _, way in quick], [way for _, way in causes])
            self.assertEqual(fast.last, quick[-1][0] if quick else 0)
            self.assertEqual([event[1:] for event in fast.events], [event[1:] for event in tape.events])
            self.assertEqual(hastened(pair, fast), fast)
            for times in combinations_with_replacement(range(tape.last + 1), len(events)):
                other = Tape(tuple((time,) + event[1:] for time, event in zip(times, events)), last=tape.last)
                ways = ways_over(pair, other)[:len(causes)]
                if [way for _, way in ways] == [way for _, way in causes]:
                    self.assertTrue(all(one[0] <= two[0] for one, two in zip(quick, ways)), (pair.left.tree, tape.events, times))
                    many += 1
        self.assertGreater(many, 2000)

    def test_clocks_that_are_due_together(self):
        pair = pair_of("(quiet 3 s)", "(quiet 5 s)", SMALL)
        tape = hastened(pair, Tape(((4, "s", "a", 0),), last=20))
        self.assertEqual((tape.events, tape.last), (((0, "s", "a", 0),), 5))
        pair = pair_of("(+ (quiet 3 s) (quiet 5 t))", "(never 1)", {"s": ("a",), "t": ("a",)})
        tape = Tape(((4, "t", "a", 0), (6, "s", "a", 0)), last=20)
        self.assertEqual(hastened(pair, tape), Tape(((0, "t", "a", 0), (2, "s", "a", 0)), last=5))
        tape = Tape(((4, "t", "a", 0), (7, "s", "a", 0)), last=20)
        self.assertEqual(hastened(pair, tape), Tape(((0, "t", "a", 0), (3, "s", "a", 0)), last=6))
        tape = Tape(((4, "t", "a", 0), (5, "s", "a", 0)), last=20)
        self.assertEqual(hastened(pair, tape), Tape(((0, "t", "a", 0), (0, "s", "a", 0)), last=5))

    def test_events_beside_moments(self):
        pair = pair_of("(quiet 3 s)", "(quiet 3 s)", {"s": ("a",), "t": ("a",)})
        for time, fast in ((10, 0), (12, 0), (13, 3), (14, 3), (90, 3)):
            tape = Tape(((10, "s", "a", 1), (time, "t", "a", 2)), last=99)
            self.assertEqual(hastened(pair, tape), Tape(((0, "s", "a", 1), (fast, "t", "a", 2)), last=3))
        tape = Tape(((10, "s", "a", 1), (12, "t", "a", 2)), last=12)
        self.assertEqual(hastened(pair, tape), Tape(((0, "s", "a", 1), (0, "t", "a", 2)), last=0))

    def test_great_numbers_and_nothing(self):
        d = LONG
        pair = pair_of(f"(quiet {d} s)", f"(late {d - 3} 2 s)", SMALL)
        tape = Tape(((5, "s", "a", 1), (d - 5, "s", "a", 1)), last=9 * d)
        self.assertEqual(hastened(pair, tape), Tape(((0, "s", "a", 1), (1, "s", "a", 1)), last=d + 1))
        tape = Tape(((5, "s", "a", 1), (d + 4, "s", "a", 1)), last=9 * d)
        self.assertEqual(hastened(pair, tape), Tape(((0, "s", "a", 1), (d - 3, "s", "a", 1)), last=2 * d - 3))
        for last in (0, 7, 10 ** 60 - 1):
            self.assertEqual(hastened(pair, Tape(last=last)), Tape())

    def test_a_thousand_causes_and_one_more(self):
        pair = pair_of("(every 2 z)", "(every 3 z)")
        # Both together have moments at four of each six steps of time.
        self.assertEqual(hastened(pair, Tape(last=1499)).last, 1498)
        for last in (1500, 10 ** 60 - 1):
            with self.assertRaises(TooMany) as caught:
                hastened(pair, Tape(last=last))
            self.assertEqual(caught.exception.limit, 1000)
        pair = pair_of("s", "s")
        self.assertEqual(hastened(pair, Tape(((3, "t", "a", 0),) * 999)), Tape(((0, "t", "a", 0),) * 999))
        self.assertRaises(TooMany, hastened, pair, Tape(((3, "t", "a", 0),) * 1000))

    def test_of_watches(self):
        watch = Watch(read_pipeline("(quiet 3 s)"), Monitor.of(("switch", ("told", 1), ("after", 2, "z"))), SMALL)
        self.assertEqual(hastened(watch, Tape(((5, "s", "a", 1), (12, "s", "a", 1)), last=99)), Tape(((0, "s", "a", 1), (5, "s", "a", 1)), last=10))
        self.assertEqual(hastened(watch, Tape(((5, "s", "a", 1), (9, "s", "a", 1)), last=99)), Tape(((0, "s", "a", 1), (3, "s", "a", 1)), last=8))

    def test_errors(self):
        pair = pair_of("s", "s", SMALL)
        for value in junk():
            if not isinstance(value, Pair):
                self.assertRaises(InvalidOperation, hastened, value, Tape())
                self.assertRaises(InvalidOperation, hastened, value, None)
            if not isinstance(value, Tape):
                self.assertRaises(InvalidTape, hastened, pair, value)
        for event in ((0, "t", "a", 1), (0, "s", "b", 1)):
            self.assertRaises(InvalidTape, hastened, pair, Tape((event,)))
            self.assertRaises(InvalidTape, hastened, pair, Tape((event,) * 1001))


class Errors(unittest.TestCase):
    def setUp(self):
        self.pair = pair_of("(first 1 s)", "(until s s)", SMALL)
        self.states = begin(self.pair.left)[0], begin(self.pair.right)[0]

    def wrong_starts(self):
        one, other = self.states
        yield from [value for value in junk() if value is not None]
        yield from [(one,), (one, other, one), [one, other], (other, one), (one, None), (None, other), (one, ("over", (), (0,))), (one, list(other))]

    def wrong_limits(self):
        return [value for value in junk() if not isinstance(value, int) or isinstance(value, bool)] + [0, -1, 901, 10 ** 60]

    def test_find_paper(self):
        for value in junk():
            if not isinstance(value, Pair):
                self.assertRaises(InvalidOperation, find_paper, value)
                self.assertRaises(InvalidOperation, find_paper, value, start=0, limit=0)
        for value in self.wrong_starts():
            self.assertRaises(InvalidState, find_paper, self.pair, start=value)
            self.assertRaises(InvalidState, find_paper, self.pair, start=value, limit=0)
        for value in self.wrong_limits():
            for start in (None, self.states):
                with self.assertRaises(InvalidNumber) as caught:
                    find_paper(self.pair, start=start, limit=value)
                self.assertIs(caught.exception.value, value)
        self.assertRaises(TooMany, find_paper, self.pair, limit=1)
        self.assertEqual(len(find_paper(self.pair, limit=2)[1]), 2)
        self.assertEqual(find_paper(self.pair, start=self.states, limit=900), find_paper(self.pair))

    def test_is_paper(self):
        paper = find_paper(self.pair)
        for value in junk():
            if not isinstance(value, Pair):
                self.assertRaises(InvalidOperation, is_paper, value, paper)
                self.assertRaises(InvalidOperation, is_paper, value, None, start=0)
            self.assertIs(is_paper(self.pair, value), False)
        for value in self.wrong_starts():
            self.assertRaises(InvalidState, is_paper, self.pair, paper, start=value)
            self.assertRaises(InvalidState, is_paper, self.pair, None, start=value)

    def test_are_alike(self):
        one, other = self.pair.left, self.pair.right
        far = read_pipeline("(pairs t)")
        for value in junk():
            if not isinstance(value, Pipeline):
                self.assertRaises(InvalidPipeline, are_alike, value, other, SMALL)
                self.assertRaises(InvalidPipeline, are_alike, one, value, SMALL)
                self.assertRaises(InvalidPipeline, are_alike, one, value, None, start=0, limit=0)
            if value != {}:
                self.assertRaises(InvalidLayout, are_alike, one, other, value)
            self.assertRaises(InvalidLayout, are_alike, one, far, value, start=0, limit=0)
        self.assertRaises(InvalidPipeline, are_alike, Monitor.of(one.tree), other, SMALL)
        for value in self.wrong_starts():
            self.assertRaises(InvalidState, are_alike, one, other, SMALL, start=value)
            self.assertRaises(InvalidState, are_alike, one, far, SMALL, start=value, limit=0)
        for value in self.wrong_limits():
            with self.assertRaises(InvalidNumber) as caught:
                are_alike(one, far, SMALL, limit=value)
            self.assertIs(caught.exception.value, value)
        state = begin(far)[0]
        for pipeline in (far, read_pipeline("t"), read_pipeline("(never 0)")):
            self.assertRaises(InvalidOperation, are_alike, one, pipeline, SMALL, limit=1)
            self.assertRaises(InvalidOperation, are_alike, pipeline, one, SMALL, limit=1)
        self.assertRaises(InvalidOperation, are_alike, one, far, SMALL, start=(self.states[0], state), limit=1)
        self.assertRaises(TooMany, are_alike, one, other, SMALL, limit=1)

    def test_nothing_is_changed(self):
        layout = {"t": ("a",), "s": ("a", "b")}
        one, other = read_pipeline("(quiet 2 s)"), read_pipeline("(late 2 1 s)")
        self.assertFalse(are_alike(one, other, layout))
        self.assertEqual(list(layout.items()), [("t", ("a",)), ("s", ("a", "b"))])
        pair = Pair(one, other, layout)
        self.assertEqual(find_paper(pair), find_paper(pair))


if __name__ == "__main__":
    unittest.main()
