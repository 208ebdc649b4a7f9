"""Pairs and their joint stands."""

import unittest

from pushalike.errors import InvalidLayout, InvalidOperation, InvalidPipeline, InvalidStand, InvalidState
from pushalike.joint.bounds import Bounds
from pushalike.joint.stands import Pair
from pushalike.run.states import begin, due_in, event, moment, waited
from pushalike.tree.pipelines import Pipeline
from pushalike.tree.texts import read_pipeline
from tests.chance import LAYOUT, Chance
from tests.counted import FIRST, STEP, classes, in_classes, least, needs, pairs_of, small, time_left, waits, ways
from tests.samples import MOST, S, junk

SMALL = {"s": ("a",)}
# Pairs of pipelines with each operator of the document.
TEXTS = (
    ("s", "(only a s)"), ("(never 1)", "(first 2 s)"), ("(one z)", "(after 3 z)"), ("(every 2 z)", "(again (after 2 z))"), ("(only a s)", "(pick 0 s)"),
    ("(pick 1 (pairs s))", "(changes s)"), ("(fold 0a1b,1a0- s)", "(fold 0a0b s)"), ("(first 2 s)", "(until s t)"), ("(changes s)", "(changes (changes s))"),
    ("(pairs s)", "(& s s)"), ("(quiet 3 s)", "(late 3 2 s)"), ("(spaced 3 s)", "(spaced 2 (spaced 3 s))"), ("(late 2 2 s)", "(late 1 1 (late 1 3 s))"),
    ("(again (first 1 s))", "s"), ("(+ s t)", "(+ t s)"), ("(& s t)", "(& t s)"), ("(at s t)", "(at s (first 2 t))"), ("(until s t)", "(until s (quiet 2 t))"),
    ("(then (first 1 s) t)", "(then (first 2 s) t)"), ("(else 3 s t)", "(else 2 s (quiet 2 t))"), ("(switch s (+ it t))", "(busy s (+ it t))"),
    ("(switch (quiet 3 s) (until t (after 2 z)))", "(busy (quiet 3 s) (until t (after 2 z)))"), ("(switch s it)", "s"),
    ("(switch s (else 2 (never 1) it))", "(quiet 2 s)"), ("(quiet 2 (quiet 2 s))", "(quiet 4 s)"), ("(+ (late 2 2 s) (quiet 3 t))", "(late 3 3 (+ s t))"),
    ("(switch (late 2 2 s) (then (pick 0 (first 1 t)) it))", "(busy (late 3 1 s) (then (first 1 t) it))"), ("(+ (one y) (every 3 z))", "(then (one y) (every 3 z))"),
)
QUIET_LATE = Pair(Pipeline.source("s").quiet(2), Pipeline.source("s").late(2), SMALL)


def pairs():
    for one, other in TEXTS:
        yield Pair(read_pipeline(one), read_pipeline(other), {"s": ("a", "b"), "t": ("a",)})


def reached(pair, most):
    """The first joint stands that are reached, at most so many."""
    found = [pair.begin()[0]]
    for stand in found:
        for way in pair.ways(stand):
            after = pair.follow(stand, way)[0]
            if after not in found and len(found) < most:
                found.append(after)
    return found


class Examples(unittest.TestCase):
    def test_the_example(self):
        start = QUIET_LATE.begin()[0]
        self.assertEqual([start, list(QUIET_LATE.ways(start))], [((None, "on"), ((), "on"), (), ((0,),)), [("event", "s", "a", 0)]])
        stand = QUIET_LATE.follow(start, ("event", "s", "a", 0))[0]
        self.assertEqual([stand, list(QUIET_LATE.ways(stand))[1:]],
                         [(("a", "on"), (("a",), "on"), (0, 0), ((0, 0, 0), (1, 0, 0), (1, 0, 0))), [("event", "s", "a", 1), ("moment", (1, 2))]])
        self.assertEqual(QUIET_LATE.follow(stand, ("moment", (1, 2))),
                         (((None, "on"), ((), "on"), (), ((0,),)), (("a", (0,)),), (("a", (0,)),)))

    def test_begin(self):
        pair = Pair(read_pipeline("(+ (one y) (after 4 z))"), read_pipeline("(one y)"), SMALL)
        self.assertEqual(pair.begin(), ((("over", "on"), "over", (), ((0, 0), (3, 0))), (("y", ()),), (("y", ()), "end")))
        pair = Pair(read_pipeline("(after 4 z)"), read_pipeline("(every 2 z)"), SMALL)
        self.assertEqual(pair.begin(), (("on", "on", (), ((0, 0, 0), (1, 0, 0), (1, 0, 0))), (), ()))

    def test_stand(self):
        one, other = (("a", "on"), (7,), (0,)), ((("b",), "on"), (7,), (1,))
        pair = Pair(read_pipeline("(quiet 5 s)"), read_pipeline("(late 3 2 s)"), SMALL)
        self.assertEqual(pair.stand(one, other), (("a", "on"), (("b",), "on"), (0, 0), ((0, 0, -1), (1, 0, -1), (2, 1, 0))))
        self.assertEqual(pair.stand((("a", "on"), (7,), (0,)), ((("b", "a"), "on"), (8, 7), (1, 1)))[2], (0, 1, 0))
        self.assertEqual(pair.stand(((None, "on"), (), ()), (((), "on"), (), ())), ((None, "on"), ((), "on"), (), ((0,),)))

    def test_classes_in_lists(self):
        pair = Pair(read_pipeline("(& s t)"), read_pipeline("(& s t)"), {"s": ("a",), "t": ("a",)})
        stand = (((1, 1, "on", "on"), (1, 1, "on", "on"), (0, 1, 2, 1), ((0,),)))
        self.assertTrue(pair.is_stand(stand))
        self.assertEqual(list(pair.ways(stand)), [("event", name, "a", number) for name in "st" for number in range(4)])
        self.assertEqual(pair.follow(stand, ("event", "s", "a", 2)),
                         ((((1, 1, "on", "on"), (1, 1, "on", "on"), (0, 1, 0, 1), ((0,),))), (("a", (2, 1)),), (("a", (2, 1)),)))
        self.assertEqual(pair.follow(stand, ("event", "t", "a", 3)),
                         ((((1, 1, "on", "on"), (1, 1, "on", "on"), (0, 1, 2, 1), ((0,),))), (("a", (0, 3)),), (("a", (2, 3)),)))

    def test_ways_in_their_order(self):
        pair = Pair(read_pipeline("(quiet 3 s)"), read_pipeline("(late 3 2 s)"), {"t": ("b", "c"), "s": ("a", "z")})
        stand = (("a", "on"), (("a", "b"), "on"), (0, 1, 0), ((0, 0, 0, 0), (2, 0, 2, 2), (2, 2, 0, 2), (2, 2, 0, 0)))
        self.assertTrue(pair.is_stand(stand))
        events = [("event", source, letter, number) for source, letter in ("sa", "sz", "tb", "tc") for number in range(3)]
        self.assertEqual(list(pair.ways(stand)), events + [("moment", due) for due in ((1,), (1, 2), (1, 2, 3), (2,), (2, 3))])

    def test_moments_of_clocks_that_can_be_due_together(self):
        for one, other, due in (
            ("(after 3 z)", "(after 3 z)", [(1, 2)]), ("(after 3 z)", "(after 4 z)", [(1,)]), ("(after 4 z)", "(after 3 z)", [(2,)]), ("(one z)", "(one z)", []),
            ("(after 1 z)", "(one z)", [(1,)]), ("(one z)", "(every 1 z)", [(1,)]), ("(+ (after 3 z) (after 3 z))", "(after 3 z)", [(1, 2, 3)]),
        ):
            pair = Pair(read_pipeline(one), read_pipeline(other), SMALL)
            self.assertEqual([way[1] for way in pair.ways(pair.begin()[0]) if way[0] == "moment"], due)
        pair = Pair(read_pipeline("(spaced 2 s)"), read_pipeline("(spaced 3 t)"), {"s": ("a",), "t": ("a",)})
        both = ((1, "on"), (1, "on"), ())
        for rows, due in (
            (((0, 0, 0), (1, 0, 1), (2, 2, 0)), [(1,), (1, 2), (2,)]), (((0, 0, 0), (1, 0, -1), (2, 2, 0)), None), (((0, 0, 0), (0, 0, 0), (0, 0, 0)), [(1,)]),
            (((0, 0, -1), (1, 0, -1), (2, 1, 0)), [(1, 2)]), (((0, 0, -2), (0, 0, -2), (2, 2, 0)), [(2,)]), (((0, -1, 0), (1, 0, 1), (2, 1, 0)), [(1,), (1, 2)]),
            (((0, -1, -2), (1, 0, -1), (2, 1, 0)), [(1, 2)]),
        ):
            self.assertIs(pair.is_stand(both + (rows,)), due is not None)
            if due is not None:
                self.assertEqual([way[1] for way in pair.ways(both + (rows,)) if way[0] == "moment"], due)

    def test_long_clocks(self):
        d = 10 ** 40 - 1
        pair = Pair(read_pipeline(f"(quiet {d} s)"), read_pipeline(f"(quiet {d - 1} s)"), SMALL)
        stand = pair.follow(pair.begin()[0], ("event", "s", "a", 0))[0]
        self.assertEqual(stand[3], ((0, 0, 0), (d - 2, 0, 0), (d - 2, 0, 0)))
        self.assertEqual(pair.follow(stand, ("moment", (2,)))[0][3], ((0, 1 - d), (d - 1, 0)))


class Counted(unittest.TestCase):
    def counted(self, pair, stand):
        """All ways of a joint stand are those that are counted; returns where they lead."""
        self.assertTrue(pair.is_stand(stand))
        wanted = ways(pair, stand)
        self.assertEqual(list(pair.ways(stand)), list(wanted))
        for way in wanted:
            self.assertEqual(pair.follow(stand, way), wanted[way], (pair.left.tree, pair.right.tree, stand, way))
        return [end[0] for end in wanted.values()]

    def test_each_operator(self):
        for pair in pairs():
            state, other = begin(pair.left)[0], begin(pair.right)[0]
            self.assertEqual(pair.begin(), (least(waits(pair, [(state, other)])), begin(pair.left)[1], begin(pair.right)[1]))
            for stand in reached(pair, 12):
                if small(pair, stand):
                    self.counted(pair, stand)

    def test_by_chance(self):
        for seed in range(250):
            chance = Chance(seed)
            pair = Pair(*chance.pair(), LAYOUT)
            stand = pair.begin()[0]
            self.assertEqual(stand, least(waits(pair, [(begin(pair.left)[0], begin(pair.right)[0])])))
            for _ in range(4):
                if small(pair, stand):
                    self.counted(pair, stand)
                stand = pair.follow(stand, chance.one_of(pair.ways(stand)))[0]

    def test_stands_that_are_not_reached(self):
        for seed in range(250):
            chance = Chance(seed)
            pair = Pair(*chance.pair(), LAYOUT)
            stand = pair.begin()[0]
            for _ in range(5):
                stand = pair.follow(stand, chance.one_of(pair.ways(stand)))[0]
                if len(stand[3]) > 1 and small(pair, stand):
                    bounds = Bounds(stand[3])
                    for _ in range(2):
                        i, j = chance.random.randint(0, len(bounds)), chance.random.randint(0, len(bounds))
                        bounds = bounds.cut(i, j, chance.random.randint(-3, 2)) or bounds
                    part = stand[:3] + (bounds.rows,)
                    self.counted(pair, part)
                    self.assertTrue(pair.within(part, stand))
                    self.assertIs(pair.within(stand, part), part == stand)

    def test_the_states_that_a_stand_has(self):
        for seed in range(150):
            chance = Chance(seed)
            pair = Pair(*chance.pair(), LAYOUT)
            for stand in reached(pair, 6):
                if small(pair, stand, 60):
                    known = set(pairs_of(pair, stand))
                    every = pairs_of(pair, stand[:3] + (((99,) * len(stand[3]),) * len(stand[3]),))
                    for states in every:
                        if self.are_states(pair, states):
                            self.assertIs(pair.has(stand, *states), states in known)
                            self.assertEqual(pair.stand(*states), least(waits(pair, [states])))

    def are_states(self, pair, states):
        try:
            return (due_in(pair.left, states[0]), due_in(pair.right, states[1])) != 0
        except InvalidState:
            return False


class Walks(unittest.TestCase):
    """Two pipelines that run on one tape are always in the joint stand to which the ways of the tape lead."""

    def walk(self, pair, chance, many):
        states, told = (begin(pair.left)[0], begin(pair.right)[0]), (begin(pair.left)[1], begin(pair.right)[1])
        stand, one, other = pair.begin()
        self.assertEqual((one, other), told)
        for _ in range(many):
            self.assertTrue(pair.has(stand, *states))
            left = time_left(pair, states)
            if left is not None and chance.random.random() < 0.5:
                states, told, way = self.moment(pair, states, left)
            else:
                # An event without a wait, after any wait, or just before the next moment.
                time = chance.one_of([0, chance.random.randint(0, 3)] if left is None else [0, left - 1, chance.random.randrange(left)])
                states = waited(pair.left, states[0], time), waited(pair.right, states[1], time)
                self.assertTrue(pair.has(stand, *states))
                states, told, way = self.event(pair, states, chance.event())
            self.assertIn(way, list(pair.ways(stand)))
            values = self.names
            stand, one, other = pair.follow(stand, way)
            self.assertEqual((one, other), tuple(self.named(list_, values) for list_ in told))
            self.assertTrue(pair.has(stand, *states))
            self.assertTrue(pair.is_stand(stand))

    def moment(self, pair, states, left):
        clocks = []
        for pipeline, state in zip((pair.left, pair.right), states):
            due = due_in(pipeline, state) == left
            clocks += [due and d - reading == left for d, reading in zip(needs(pipeline, state[0])[1], state[2])]
        way = ("moment", tuple(at + 1 for at, due in enumerate(clocks) if due))
        self.names = {value: number for value, number in zip(states[0][1] + states[1][1], classes(states[0][1] + states[1][1]))}
        ends = []
        for pipeline, state in zip((pair.left, pair.right), states):
            ends.append(moment(pipeline, state) if due_in(pipeline, state) == left else (waited(pipeline, state, left), ()))
        return tuple(end[0] for end in ends), tuple(end[1] for end in ends), way

    def event(self, pair, states, happened):
        values = states[0][1] + states[1][1]
        self.names = {value: number for value, number in zip(values, classes(values))}
        number = self.names.setdefault(happened[2], len(self.names))
        way = ("event", happened[0], happened[1], number)
        ends = [event(pipeline, state, *happened) for pipeline, state in zip((pair.left, pair.right), states)]
        return tuple(end[0] for end in ends), tuple(end[1] for end in ends), way

    def named(self, told, names):
        return tuple(item if item == "end" else (item[0], tuple(names[value] for value in item[1])) for item in told)

    def test_each_operator(self):
        for at, pair in enumerate(pairs()):
            for seed in range(3):
                chance = Chance(100 * at + seed)
                layout = Pair(pair.left, pair.right, LAYOUT)
                self.walk(layout, chance, 25)

    def test_by_chance(self):
        for seed in range(200):
            chance = Chance(seed)
            self.walk(Pair(*chance.pair(8), LAYOUT), chance, 15)


class IsStand(unittest.TestCase):
    def test_reached_stands_and_spoilt_ones(self):
        for pair in pairs():
            for stand in reached(pair, 8):
                self.assertIs(pair.is_stand(stand), True)
                self.spoilt(pair, stand)

    def spoilt(self, pair, stand):
        shape, other, numbers, rows = stand
        wrong = [stand[:3], stand + ((),), list(stand), (shape, other, rows, numbers),
                 (shape, other, list(numbers), rows), (shape, other, numbers, list(rows)), (shape, other, numbers + (0,), rows),
                 (shape, other, numbers, rows + rows), (shape, other, numbers, ()), ("what", other, numbers, rows), (shape, "what", numbers, rows),
                 ((shape,), other, numbers, rows), (None, other, numbers, rows)]
        for at in range(len(numbers)):
            wrong.append((shape, other, numbers[:at] + numbers[at + 1:], rows))
            for number in (-1, True, False, None, "0", max(numbers) + 2, MOST + 1):
                wrong.append((shape, other, numbers[:at] + (number,) + numbers[at + 1:], rows))
        for i, row in enumerate(rows):
            wrong.append((shape, other, numbers, rows[:i] + (list(row),) + rows[i + 1:]))
            wrong.append((shape, other, numbers, rows[:i] + (row[:-1],) + rows[i + 1:]))
            for j in range(len(row)):
                for item in (True, None, "0", 10 ** 60, row[j] + 10 ** 41):
                    wrong.append((shape, other, numbers, rows[:i] + (row[:j] + (item,) + row[j + 1:],) + rows[i + 1:]))
        for value in wrong:
            self.assertIs(pair.is_stand(value), False, value)

    def test_rows_beside_the_points_that_states_have(self):
        """Rows are those of a stand if they are the greatest differences of the states that they hold."""
        pair = Pair(read_pipeline("(late 3 2 s)"), read_pipeline("(quiet 2 s)"), SMALL)
        shapes, numbers = ((("a", "b"), "on"), ("a", "on")), (0, 1, 0)
        found = 0
        for seed in range(4000):
            chance = Chance(seed).random
            size = range(4)
            rows = tuple(tuple(0 if i == j else chance.randint(-1, 2) for j in size) for i in size)
            if seed % 2:
                # Rows of some of the points that states have, and those with one place changed.
                points = [(0, a, b, c) for a in range(3) for b in range(a + 1) for c in range(2)]
                kept = chance.sample(points, chance.randint(1, 4))
                rows = tuple(tuple(max(point[i] - point[j] for point in kept) for j in size) for i in size)
                if seed % 4 == 1:
                    i, j = chance.randrange(4), chance.randrange(4)
                    rows = tuple(tuple(rows[a][b] + (chance.choice([-1, 1]) if (a, b) == (i, j) else 0) for b in size) for a in size)
            held = [point for point in [(0, a, b, c) for a in range(3) for b in range(a + 1) for c in range(2)]
                    if all(point[i] - point[j] <= rows[i][j] for i in size for j in size)]
            right = held != [] and rows == tuple(tuple(max(point[i] - point[j] for point in held) for j in size) for i in size)
            found += right
            self.assertIs(pair.is_stand(shapes + (numbers, rows)), right, rows)
        self.assertGreater(found, 500)

    def test_stands_of_states_that_are_not_reached(self):
        pair = Pair(read_pipeline("(fold 0a0a s)"), read_pipeline("(late 3 2 s)"), SMALL)
        stand = ((7, "on"), (("z", "y"), "over"), (0, 1), ((0, -2, 0), (2, 0, 2), (1, -1, 0)))
        self.assertFalse(pair.is_stand(stand))
        pair = Pair(read_pipeline("(fold 0a0a s)"), read_pipeline("(late 3 2 (until s s))"), SMALL)
        self.assertTrue(pair.is_stand(((7, "on"), (("z", "y"), "over"), (0, 1), ((0, -2, 0), (2, 0, 2), (1, -1, 0)))))
        self.assertFalse(pair.is_stand(((9, "on"), (("z", "y"), "over"), (0, 1), ((0, -2, 0), (2, 0, 2), (1, -1, 0)))))
        self.assertFalse(pair.is_stand(((7, "on"), (("z", "y"), "over"), (1, 0), ((0, -2, 0), (2, 0, 2), (1, -1, 0)))))
        self.assertFalse(pair.is_stand(((7, "on"), ((), "over"), (), ((0,),))))

    def test_classes(self):
        pair = Pair(read_pipeline("(late 9 3 s)"), read_pipeline("(changes s)"), SMALL)
        rows = ((0, 0, 0, 0), (0, 0, 0, 0), (0, 0, 0, 0), (0, 0, 0, 0))
        for a in range(-1, 5):
            for b in range(-1, 5):
                for c in range(-1, 5):
                    for d in range(-1, 5):
                        numbers = (a, b, c, d)
                        right = min(numbers) >= 0 and classes(numbers) == numbers
                        self.assertIs(pair.is_stand(((("a", "a", "b"), "on"), (1, "on"), numbers, rows)), right)

    def test_values_of_every_kind(self):
        stand = (("a", "on"), (("a",), "on"), (0, 0), ((0, 0, 0), (1, 0, 0), (1, 0, 0)))
        for value in junk() + ["over", ("over",) * 4, None]:
            self.assertIs(QUIET_LATE.is_stand(value), False)
            for at in range(4):
                self.assertIs(QUIET_LATE.is_stand(stand[:at] + (value,) + stand[at + 1:]), False)
                self.assertIs(QUIET_LATE.is_stand(stand[:at] + ((value,),) + stand[at + 1:]), False)
        self.assertIs(QUIET_LATE.is_stand(stand), True)


class Errors(unittest.TestCase):
    START = QUIET_LATE.begin()[0]
    STAND = QUIET_LATE.follow(QUIET_LATE.begin()[0], ("event", "s", "a", 0))[0]
    ONE, OTHER = (("a", "on"), (7,), (1,)), ((("a",), "on"), (7,), (1,))

    def test_what_is_no_pipeline(self):
        box = read_pipeline("s")
        for value in junk() + [S, "s", None]:
            if not isinstance(value, Pipeline):
                for layout in (SMALL, None, {}):
                    for arguments in ((value, box), (box, value), (value, value)):
                        with self.assertRaises(InvalidPipeline):
                            Pair(*arguments, layout)

    def test_what_is_no_layout(self):
        for one, other in (("s", "s"), ("s", "(one z)"), ("t", "s")):
            for value in junk() + [{}, {"s": ["a"]}, {"s": ()}, {"s": ("b", "a")}, {"it": ("a",)}, ("s",), None]:
                with self.assertRaises(InvalidLayout):
                    Pair(read_pipeline(one), read_pipeline(other), value)

    def test_what_cannot_be_compared(self):
        for one, other, layout in (
            ("s", "(one z)", SMALL), ("(pairs s)", "s", SMALL), ("s", "t", SMALL), ("t", "s", SMALL), ("(until s t)", "s", SMALL),
            ("s", "(until s t)", {"s": ("a",), "u": ("a",)}), ("t", "(one z)", SMALL),
        ):
            with self.assertRaises(InvalidOperation):
                Pair(read_pipeline(one), read_pipeline(other), layout)

    def test_what_is_no_stand(self):
        wrong = junk() + [self.STAND[:3], list(self.STAND), self.STAND[:3] + (((0, 0, 0), (2, 0, 0), (1, 0, 0)),), ("on", "over", (), ((0,),))]
        for value in wrong:
            for other in (self.STAND, None):
                calls = (
                    lambda: QUIET_LATE.has(value, self.ONE, self.OTHER), lambda: QUIET_LATE.has(value, None, None), lambda: next(QUIET_LATE.ways(value)),
                    lambda: QUIET_LATE.follow(value, ("event", "s", "a", 0)), lambda: QUIET_LATE.follow(value, None), lambda: QUIET_LATE.within(value, other),
                    lambda: QUIET_LATE.within(self.STAND, value), lambda: list(QUIET_LATE.ways(value)),
                )
                for call in calls:
                    with self.assertRaises(InvalidStand):
                        call()

    def test_a_generator_raises_its_error_when_it_is_asked(self):
        found = QUIET_LATE.ways(None)
        with self.assertRaises(InvalidStand):
            next(found)
        found = QUIET_LATE.ways(self.START)
        self.assertIs(iter(found), found)
        self.assertEqual(next(found), ("event", "s", "a", 0))

    def test_what_is_no_state(self):
        for value in junk() + [self.OTHER, ("over", (), ()) + ((),), (("a", "on"), (7,), (2,)), (("a", "on"), [7], (1,)), (("a", "on"), (7, 8), (1,))]:
            for call in (lambda: QUIET_LATE.has(self.STAND, value, self.OTHER), lambda: QUIET_LATE.has(self.STAND, value, None),
                         lambda: QUIET_LATE.stand(value, self.OTHER), lambda: QUIET_LATE.stand(value, None)):
                with self.assertRaises(InvalidState):
                    call()
        for value in junk() + [self.ONE, (((), "over"), (), ()), ((("a", "b"), "on"), (7, 8), (1, 0))]:
            for call in (lambda: QUIET_LATE.has(self.STAND, self.ONE, value), lambda: QUIET_LATE.stand(self.ONE, value)):
                with self.assertRaises(InvalidState):
                    call()

    def test_what_is_no_way(self):
        wrong = junk() + [
            ("event", "s", "a", 2), ("event", "s", "a", -1), ("event", "s", "a", True), ("event", "s", "a", False), ("event", "s", "a", None),
            ("event", "s", "a", "0"), ("event", "s", "b", 0), ("event", "t", "a", 0), ("event", "s", "a"), ("event", "s", "a", 0, 0), ["event", "s", "a", 0],
            ("event", ["s"], "a", 0), ("event", "s", ["a"], 0), ("event", {}, "a", 0), ("event", "s", "", 0), ("Event", "s", "a", 0), ("moment", "s", "a", 0),
            ("moment",), ("moment", ()), ("moment", (1,)), ("moment", (2,)), ("moment", (2, 1)), ("moment", (1, 1)), ("moment", (1, 2, 3)), ("moment", (0, 1)),
            ("moment", (0,)), ("moment", (3,)), ("moment", [1, 2]), ("moment", (True, 2)), ("moment", (1, 2), 0), ("moment", 1), ("moment", None),
            ("moment", "12"), ["moment", (1, 2)], ("event", (1, 2)), ("moment", (1, None)), ("moment", ((1, 2),)), ("moment", {1: 2}),
        ]
        wrong += [("event", value, "a", 0) for value in junk()] + [("event", "s", value, 0) for value in junk()] + [("moment", value) for value in junk()]
        wrong += [("event", "s", "a", value) for value in junk() if type(value) is not int or not 0 <= value <= 1] + [("moment", (value, 2)) for value in junk()[3:]]
        for value in wrong:
            with self.assertRaises(InvalidOperation):
                QUIET_LATE.follow(self.STAND, value)
        for value in (("moment", (1,)), ("moment", (1, 2)), ("moment", ()), ("event", "s", "a", 1)):
            with self.assertRaises(InvalidOperation):
                QUIET_LATE.follow(self.START, value)

    def test_a_moment_that_cannot_be(self):
        pair = Pair(read_pipeline("(after 3 z)"), read_pipeline("(after 4 z)"), SMALL)
        start = pair.begin()[0]
        self.assertEqual(pair.follow(start, ("moment", (1,)))[0], ("over", "on", (), ((0, -3), (3, 0))))
        for due in ((2,), (1, 2), (1, 1), (1, 1, 1), (True,), [1], (1, 0), (0, 1), (1, 3)):
            with self.assertRaises(InvalidOperation):
                pair.follow(start, ("moment", due))

    def test_what_is_no_list(self):
        for value in junk() + [["end"], ("end", "end"), ("end", ("a", ())), (("a", (1, 2, 3, 4, 5)),), (("a",),), ("a", ()), (("a", [1]),), "end"]:
            if value != () or not isinstance(value, tuple):
                for arguments in ((value, ()), ((), value), (value, value)):
                    with self.assertRaises(InvalidOperation):
                        QUIET_LATE.parted(*arguments)


class Rest(unittest.TestCase):
    def test_parted(self):
        lists = ((), ("end",), (("a", ()),), (("a", ()), "end"), (("a", (1,)),), (("a", (2,)),), (("a", (1,)), ("b", (1,))), (("b", (1,)), ("a", (1,))))
        for first in lists:
            for second in lists:
                self.assertIs(QUIET_LATE.parted(first, second), first != second)

    def test_within(self):
        pair = Pair(read_pipeline("(spaced 3 s)"), read_pipeline("(quiet 3 s)"), SMALL)
        wide = ((1, "on"), ("a", "on"), (0,), ((0, 0, 0), (2, 0, 2), (2, 2, 0)))
        thin = ((1, "on"), ("a", "on"), (0,), ((0, -1, 0), (1, 0, 1), (1, 0, 0)))
        other = ((1, "on"), ("b", "on"), (0,), ((0, 0, 0), (2, 0, 2), (2, 2, 0)))
        for stand in (wide, thin, other):
            self.assertIs(pair.is_stand(stand), True)
            self.assertIs(pair.within(stand, stand), True)
        self.assertIs(pair.within(thin, wide), True)
        self.assertIs(pair.within(wide, thin), False)
        self.assertIs(pair.within(thin, other), False)
        two = Pair(read_pipeline("(changes s)"), read_pipeline("(changes s)"), SMALL)
        self.assertIs(two.within(((1, "on"), (1, "on"), (0, 0), ((0,),)), ((1, "on"), (1, "on"), (0, 1), ((0,),))), False)
        self.assertIs(two.within(((1, "on"), (1, "on"), (0, 1), ((0,),)), ((1, "on"), (1, "on"), (0, 1), ((0,),))), True)

    def test_has(self):
        stand = Errors.STAND
        for a in range(2):
            for b in range(2):
                self.assertIs(QUIET_LATE.has(stand, (("a", "on"), (7,), (a,)), ((("a",), "on"), (7,), (b,))), a == b)
        self.assertIs(QUIET_LATE.has(stand, (("a", "on"), (7,), (1,)), ((("a",), "on"), (8,), (1,))), False)
        self.assertIs(QUIET_LATE.has(stand, (("b", "on"), (7,), (1,)), ((("a",), "on"), (7,), (1,))), False)
        self.assertIs(QUIET_LATE.has(stand, ((None, "on"), (), ()), (((), "on"), (), ())), False)

    def test_properties(self):
        one, other = read_pipeline("(quiet 3 s)"), read_pipeline("(late 3 1 s)")
        layout = {"t": ("b", "c"), "s": ("a",)}
        pair = Pair(one, other, layout)
        self.assertEqual((pair.left, pair.right, pair.layout, list(pair.layout)), (one, other, layout, ["s", "t"]))
        for name in ("left", "right", "layout"):
            with self.assertRaises(AttributeError):
                setattr(pair, name, None)
        with self.assertRaises(TypeError):
            iter(pair)

    def test_a_layout_may_be_changed_afterwards(self):
        layout = {"t": ("b", "c"), "s": ("a",)}
        pair = Pair(read_pipeline("s"), read_pipeline("s"), layout)
        self.assertEqual(layout, {"t": ("b", "c"), "s": ("a",)})
        found = list(pair.ways(pair.begin()[0]))
        layout["u"] = ("a",)
        layout["s"] = None
        pair.layout["t"] = ()
        pair.layout.clear()
        self.assertEqual(pair.layout, {"s": ("a",), "t": ("b", "c")})
        self.assertEqual(list(pair.ways(pair.begin()[0])), found)
        self.assertEqual(found, [("event", "s", "a", 0), ("event", "t", "b", 0), ("event", "t", "c", 0)])

    def test_equal(self):
        def made(one="s", other="(only a s)", layout=None):
            return Pair(read_pipeline(one), read_pipeline(other), layout or {"s": ("a",), "t": ("b",)})
        self.assertEqual(made(), made())
        self.assertFalse(made() != made())
        self.assertEqual(made(), made(layout={"t": ("b",), "s": ("a",)}))
        for other in (made("t"), made(other="s"), made("(only a s)", "s"), made(layout=SMALL), made(layout={"s": ("a",), "t": ("c",)})):
            self.assertNotEqual(made(), other)
        for value in junk() + [read_pipeline("s"), SMALL]:
            if not isinstance(value, Pair):
                self.assertFalse(made() == value)
                self.assertTrue(made() != value)

    def test_text(self):
        self.assertEqual(str(Pair(read_pipeline("(quiet 3 s)"), read_pipeline("s"), SMALL)), "pair of 2 and 1 parts")

    def test_values_in_classes(self):
        self.assertEqual(in_classes((("a", (FIRST, FIRST + 2 * STEP)), "end")), (("a", (0, 2)), "end"))
