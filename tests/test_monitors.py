"""Monitors and watches."""

import unittest

from pushalike.base.tapes import Tape
from pushalike.errors import InvalidLayout, InvalidNumber, InvalidOperation, InvalidPipeline, InvalidStand, InvalidState, InvalidTape, TooMany
from pushalike.joint.monitors import Monitor, Watch, keeps, observe
from pushalike.joint.papers import find_paper, hastened, is_paper
from pushalike.joint.stands import Pair
from pushalike.run.states import begin
from pushalike.tree.pipelines import Pipeline
from pushalike.tree.texts import read_pipeline, read_tree
from tests.chance import LAYOUT, Chance
from tests.oracle import Beside
from tests.plain import judge, reached
from tests.samples import S, T, junk

SMALL = {"s": ("a",)}
BOTH = {"s": ("a", "b"), "t": ("a",)}
TOLD = ("told", 1)
# Monitors of each operator over `told`, and what each of them tells beside `(quiet 2 s)` on the tape below.
OPERATORS = (
    "(told 1)", "(only a (told 1))", "(pick 0,0 (told 1))", "(fold 0a1b,1b0a (told 1))", "(first 2 (told 1))", "(changes (told 1))", "(pairs (told 1))",
    "(quiet 2 (told 1))", "(spaced 3 (told 1))", "(late 1 2 (told 1))", "(again (first 1 (told 1)))", "(+ (told 1) s)", "(+ s (told 1))", "(& (told 1) t)",
    "(& s (told 1))", "(at s (told 1))", "(at (told 1) t)", "(until (told 1) t)", "(until s (told 1))", "(then (first 1 (told 1)) (told 1))",
    "(then (first 1 s) (told 1))", "(else 2 (told 1) (told 1))", "(else 3 (told 1) s)", "(switch (told 1) (+ it (told 1)))", "(switch s (first 1 (told 1)))",
    "(busy (told 1) (until (told 1) (after 3 z)))", "(busy s (then it (first 1 (told 1))))", "(switch (told 1) (late 2 1 it))", "(again (until (told 1) t))",
    "(+ (pick - (told 1)) (every 2 z))", "(until (every 1 z) (told 1))", "(then (one z) (pick - (told 1)))", "(switch (told 1) (after 2 z))",
)


def monitor_of(text):
    return Monitor.of(read_tree(text))


class Trees(unittest.TestCase):
    def test_properties(self):
        monitor = monitor_of("(& (switch (quiet 3 t) (late 2 2 (told 1))) (+ s (told 1)))")
        self.assertEqual([monitor.tree, monitor.width, monitor.sources, monitor.clocks, monitor.told, len(monitor), str(monitor)],
                         [("&", ("switch", ("quiet", 3, T), ("late", 2, 2, TOLD)), ("+", S, TOLD)), 2, ("s", "t"), 3, 1, 9, "monitor of 9 parts"])
        for width in range(5):
            self.assertEqual([Monitor.of(("told", width)).told, Monitor.of(("told", width)).width], [width, width])
        plain = monitor_of("(quiet 3 s)")
        self.assertEqual([plain.told, plain.width, plain.sources, plain.clocks, len(plain)], [None, 1, ("s",), 1, 2])
        self.assertEqual([monitor_of("(pick - (told 4))").told, monitor_of("(pick - (told 4))").width], [4, 0])

    def test_equal_monitors(self):
        one, other = monitor_of("(first 2 (told 1))"), monitor_of("(first 2 (told 1))")
        self.assertTrue(one == other and not one != other)
        for value in junk() + [Pipeline.of(("first", 2, S)), monitor_of("(first 3 (told 1))"), monitor_of("(first 2 (told 0))"), one.tree]:
            self.assertIs(one == value, False)
            self.assertIs(one != value, True)
        plain = monitor_of("(first 2 s)")
        self.assertFalse(plain == Pipeline.of(plain.tree) or Pipeline.of(plain.tree) == plain)

    def test_each_operator(self):
        for text in OPERATORS:
            monitor = monitor_of(text)
            self.assertEqual((monitor.tree, monitor.told), (read_tree(text), 1))
            with self.assertRaises(InvalidPipeline):
                read_pipeline(text)

    def test_trees_that_are_no_monitors(self):
        for text in (
            "it", "(+ (told 1) (told 0))", "(switch (told 1) (told 2))", "(& (told 1) (only a (told 0)))", "(+ (told 1) (one z))", "(pick 1 (told 1))",
            "(changes (told 0))", "(pairs (told 3))", "(& (told 2) (pick 0,1,0 (told 2)))", "(again (one z))", "(switch (told 1) (again it))",
            "(again (+ (one z) (first 1 (pick - it))))", "(late 2 3 (late 2 3 (told 1)))", "(quiet 1 (quiet 1 (quiet 1 (quiet 1 (quiet 1 (quiet 1 (told 1)))))))",
            "(then (told 1) it)", "(at (told 1) it)",
        ):
            self.assertRaises(InvalidPipeline, Monitor.of, read_tree(text))
        for tree in (("told", 5), ("told", -1), ("told", True), ("told",), ("told", None), ["told", 1], ("first", 0, TOLD), ("first", 10, TOLD)):
            self.assertRaises(InvalidPipeline, Monitor.of, tree)
        tree = TOLD
        for _ in range(11):
            tree = ("changes", tree)
        self.assertEqual(len(Monitor.of(tree)), 12)
        self.assertRaises(InvalidPipeline, Monitor.of, ("changes", tree))
        for value in junk():
            if value != ("it",):
                self.assertRaises(InvalidPipeline, Monitor.of, value)


class Observed(unittest.TestCase):
    def test_the_example(self):
        self.assertEqual(observe(read_pipeline("(quiet 3 s)"), monitor_of("(switch (told 1) (after 2 z))"), Tape(((0, "s", "a", 7),), last=9)),
                         (((5, 0), (("z", ()),)),))

    def test_begin_lists_of_both(self):
        one, tape = read_pipeline("(+ (one y) (one x))"), Tape(last=3)
        for text, told in (
            ("(told 0)", (((0, -1), (("y", ()), ("x", ()))),)),
            ("(+ (one z) (told 0))", (((0, -2), (("z", ()),)), ((0, -1), (("y", ()), ("x", ()))))),
            ("(one z)", (((0, -2), (("z", ()), "end")),)),
            ("(first 1 (told 0))", (((0, -1), (("y", ()), "end")),)),
            ("(first 1 (+ (one z) (told 0)))", (((0, -2), (("z", ()), "end")),)),
            ("(then (one z) (told 0))", (((0, -2), (("z", ()),)), ((0, -1), (("y", ()), ("x", ()))))),
            ("(until (never 0) (told 0))", (((0, -1), ("end",)),)),
            ("(again (first 1 (told 0)))", (((0, -1), (("y", ()),)),)),
            ("(switch (told 0) (one w))", (((0, -1), (("w", ()), ("w", ()))),)),
            ("(busy (told 0) (after 2 w))", (((2, 0), (("w", ()),)),)),
            ("(only a (told 0))", ()),
            ("(quiet 1 (told 0))", (((1, 0), (("x", ()),)),)),
            ("(fold 0y1z,1x0w (told 0))", (((0, -1), (("z", ()), ("w", ()))),)),
        ):
            self.assertEqual(observe(one, monitor_of(text), tape), told, text)

    def test_lists_at_events_and_moments(self):
        tape = Tape(((1, "s", "a", 7), (1, "s", "b", 8), (4, "t", "a", 9)), last=6)
        for pipeline, text, told in (
            ("s", "(told 1)", (((1, 1), (("a", (7,)),)), ((1, 2), (("b", (8,)),)))),
            ("(quiet 3 s)", "(told 1)", (((4, 0), (("b", (8,)),)),)),
            ("(quiet 3 s)", "(+ (told 1) t)", (((4, 0), (("b", (8,)),)), ((4, 1), (("a", (9,)),)))),
            ("(first 1 s)", "(told 1)", (((1, 1), (("a", (7,)),)),)),
            ("(+ s s)", "(told 1)", (((1, 1), (("a", (7,)), ("a", (7,)))), ((1, 2), (("b", (8,)), ("b", (8,)))))),
            ("(quiet 3 s)", "(at t (told 1))", ()),
            ("(late 3 2 s)", "(pairs (told 1))", (((4, 0), (("b", (7, 8)),)),)),
            ("(late 3 2 s)", "(quiet 3 (told 1))", ()),
            ("(late 3 2 s)", "(quiet 2 (told 1))", (((6, 0), (("b", (8,)),)),)),
            ("(quiet 3 s)", "(switch (told 1) (+ it (told 1)))", (((4, 0), (("b", (8,)),)),)),
            ("(+ s t)", "(switch (told 1) (+ it t))", (((1, 1), (("a", (7,)),)), ((1, 2), (("b", (8,)),)), ((4, 1), (("a", (9,)),)))),
            ("(every 2 z)", "(else 2 (told 0) (one y))", (((2, 0), (("y", ()), "end")),)),
            ("(every 2 z)", "(else 3 (told 0) (one y))", (((2, 0), (("z", ()),)), ((4, 0), (("z", ()),)), ((6, 0), (("z", ()),)))),
            ("(never 1)", "(every 3 z)", (((3, 0), (("z", ()),)), ((6, 0), (("z", ()),)))),
            ("(one z)", "(pairs s)", (((1, 2), (("b", (7, 8)),)),)),
        ):
            self.assertEqual(observe(read_pipeline(pipeline), monitor_of(text), tape), told, (pipeline, text))

    def test_beside_a_plain_reading(self):
        kinds = {}
        for seed in range(1200):
            chance = Chance(seed)
            pipeline = chance.pipeline(6)
            monitor = chance.monitor(pipeline.width, 8)
            if monitor.told in (None, pipeline.width):
                tape = chance.tape(10)
                plain = Beside(pipeline.tree, monitor.tree)
                plain.run(tape)
                told = observe(pipeline, monitor, tape)
                self.assertEqual(told, plain.observed(), (pipeline.tree, monitor.tree, tape.events))
                for stamp, _ in told:
                    kinds[stamp if stamp[0] == 0 and stamp[1] < 1 else stamp[1] > 0] = True
        self.assertEqual(len(kinds), 4)

    def test_each_operator_beside_a_plain_reading(self):
        for text in OPERATORS:
            for seed in range(25):
                chance = Chance(seed)
                pipeline = read_pipeline(chance.one_of(["(quiet 2 s)", "(+ s t)", "(late 1 2 s)", "(first 2 s)", "(switch s it)", "(else 2 s t)"]))
                tape = chance.tape(12)
                plain = Beside(pipeline.tree, read_tree(text))
                plain.run(tape)
                self.assertEqual(observe(pipeline, monitor_of(text), tape), plain.observed(), (pipeline.tree, text, tape.events))

    def test_a_thousand_causes_and_one_more(self):
        one, monitor = read_pipeline("(every 2 z)"), monitor_of("(+ (only a (told 0)) (every 3 z))")
        self.assertEqual(len(observe(one, monitor, Tape(last=1499))), 499)
        for last in (1500, 10 ** 60 - 1):
            with self.assertRaises(TooMany) as caught:
                observe(one, monitor, Tape(last=last))
            self.assertEqual(caught.exception.limit, 1000)
        one, monitor = read_pipeline("s"), monitor_of("(only b (told 1))")
        self.assertEqual(observe(one, monitor, Tape(((0, "s", "a", 1),) * 998 + ((0, "s", "b", 1),))), (((0, 999), (("b", (1,)),)),))
        self.assertRaises(TooMany, observe, one, monitor, Tape(((0, "t", "a", 1),) * 1000))

    def test_errors(self):
        one, monitor, tape = read_pipeline("s"), monitor_of("(told 1)"), Tape()
        for value in junk():
            if not isinstance(value, Pipeline):
                self.assertRaises(InvalidPipeline, observe, value, monitor, tape)
                self.assertRaises(InvalidPipeline, observe, value, None, None)
            if not isinstance(value, Monitor):
                self.assertRaises(InvalidPipeline, observe, one, value, tape)
                self.assertRaises(InvalidPipeline, observe, one, value, None)
            if not isinstance(value, Tape):
                self.assertRaises(InvalidTape, observe, one, monitor, value)
                self.assertRaises(InvalidTape, observe, one, monitor_of("(told 0)"), value)
        self.assertRaises(InvalidPipeline, observe, monitor, one, tape)
        for width in (0, 2, 3, 4):
            self.assertRaises(InvalidOperation, observe, one, Monitor.of(("told", width)), tape)
            self.assertRaises(InvalidOperation, observe, one, Monitor.of(("told", width)), Tape(((0, "s", "a", 1),) * 2000))
        self.assertEqual(observe(one, monitor_of("(pick - s)"), Tape(((0, "s", "a", 1), (0, "u", "a", 1)))), (((0, 1), (("a", ()),)),))


class Watches(unittest.TestCase):
    def test_properties(self):
        one, monitor = read_pipeline("(quiet 3 s)"), monitor_of("(switch (told 1) (after 2 z))")
        watch = Watch(one, monitor, {"t": ("b",), "s": ("a",)})
        self.assertIsInstance(watch, Pair)
        self.assertEqual([watch.left, watch.right, watch.layout, str(watch)], [one, monitor, {"s": ("a",), "t": ("b",)}, "watch of 2 and 3 parts"])
        self.assertEqual(list(watch.layout), ["s", "t"])
        for name in ("is_stand", "begin", "stand", "has", "ways", "follow", "within", "parted", "left", "right", "layout", "__eq__", "__str__"):
            self.assertIn(name, vars(Watch))

    def test_a_layout_that_is_changed(self):
        layout = {"s": ("a",)}
        watch = Watch(Pipeline.source("s"), monitor_of("(told 1)"), layout)
        layout["t"] = ("a",)
        watch.layout["u"] = ("a",)
        self.assertEqual(watch.layout, {"s": ("a",)})

    def test_equal_watches(self):
        one, monitor = read_pipeline("s"), monitor_of("(only a s)")
        watch = Watch(one, monitor, SMALL)
        self.assertTrue(watch == Watch(read_pipeline("s"), monitor_of("(only a s)"), dict(SMALL)))
        pair = Pair(one, read_pipeline("(only a s)"), SMALL)
        for value in junk() + [pair, Watch(one, monitor, BOTH), Watch(one, monitor_of("s"), SMALL), Watch(read_pipeline("(first 1 s)"), monitor, SMALL)]:
            self.assertIs(watch == value, False)
            self.assertIs(watch != value, True)
        self.assertFalse(pair == watch)

    def test_begin(self):
        for one, text, told in (
            ("(one y)", "(told 0)", ((("y", ()), "end"), (("y", ()),))),
            ("(one y)", "(+ (one z) (told 0))", ((("y", ()), "end"), (("z", ()), ("y", ())))),
            ("(one y)", "(one z)", ((("y", ()), "end"), (("z", ()), "end"))),
            ("(one y)", "(first 1 (told 0))", ((("y", ()), "end"), (("y", ()), "end"))),
            ("(one y)", "(first 2 (+ (one z) (told 0)))", ((("y", ()), "end"), (("z", ()), ("y", ()), "end"))),
            ("(one y)", "(until (never 0) (told 0))", ((("y", ()), "end"), ("end",))),
            ("s", "(one z)", ((), (("z", ()), "end"))), ("s", "(told 1)", ((), ())),
        ):
            watch = Watch(read_pipeline(one), monitor_of(text), SMALL)
            self.assertEqual(watch.begin()[1:], told)
            plain = Beside(watch.left.tree, watch.right.tree)
            self.assertEqual(watch.begin()[0], watch.stand(*plain.states()))

    def test_follow(self):
        watch = Watch(read_pipeline("(quiet 3 s)"), monitor_of("(switch (told 1) (after 2 z))"), SMALL)
        start = watch.begin()[0]
        self.assertEqual(start, ((None, "on"), ("on", None), (), ((0,),)))
        self.assertEqual(list(watch.ways(start)), [("event", "s", "a", 0)])
        kept = watch.follow(start, ("event", "s", "a", 0))
        self.assertEqual(kept, ((("a", "on"), ("on", None), (0,), ((0, 0), (2, 0))), (), ()))
        self.assertEqual(list(watch.ways(kept[0])), [("event", "s", "a", 0), ("event", "s", "a", 1), ("moment", (1,))])
        told = watch.follow(kept[0], ("moment", (1,)))
        self.assertEqual(told, (((None, "on"), ("on", (None, "on")), (), ((0, 0), (1, 0))), (("a", (0,)),), ()))
        self.assertEqual(watch.follow(told[0], ("moment", (1,))), (start, (), (("z", ()),)))

    def test_parted(self):
        watch = Watch(read_pipeline("s"), monitor_of("(told 1)"), SMALL)
        one = (("a", (7,)),)
        for first, second, apart in (((), (), False), (one, (), False), ((), ("end",), False), ((), one, True), (one, one, True), (one + ("end",), ("end",), False),
                                     (("end",), one + ("end",), True), ((), one + one, True)):
            self.assertIs(watch.parted(first, second), apart)
        for value in junk():
            if value != ():
                self.assertRaises(InvalidOperation, watch.parted, value, one)
                self.assertRaises(InvalidOperation, watch.parted, one, value)

    def test_walks(self):
        for seed in range(250):
            chance = Chance(seed)
            pipeline = chance.pipeline(5)
            monitor = chance.monitor(pipeline.width, 7)
            watch = Watch(pipeline, monitor, LAYOUT)
            plain = Beside(pipeline.tree, monitor.tree)
            stand, told, others = watch.begin()
            self.assertEqual((told, others), plain.causes[0][1:])
            for _ in range(12):
                self.assertTrue(watch.is_stand(stand))
                self.assertTrue(watch.has(stand, *plain.states()))
                self.assertTrue(watch.within(watch.stand(*plain.states()), stand))
                stand = self.step(watch, plain, stand, chance)

    def step(self, watch, plain, stand, chance):
        """One cause by chance; the stand to which its way leads, with the same lists."""
        states, left = plain.states(), None
        due = plain.next_due()
        if due is not None:
            left = due - plain.now
        values = list(dict.fromkeys(states[0][1] + states[1][1]))
        if left is not None and chance.random.random() < 0.5:
            clocks = [at for part in (plain.part, plain.other) for _, at in part.clocks()]
            way = ("moment", tuple(at + 1 for at, time in enumerate(clocks) if time == due))
            plain.wait_until(due)
        else:
            plain.wait_until(plain.now + (chance.random.randrange(left) if left is not None else chance.random.randint(0, 2)))
            happened = chance.event()
            number = values.index(happened[2]) if happened[2] in values else len(values)
            way = ("event", happened[0], happened[1], number)
            values += [] if happened[2] in values else [happened[2]]
            plain.push(*happened)
        self.assertIn(way, list(watch.ways(stand)))
        stand, told, others = watch.follow(stand, way)
        named = [tuple(item if item == "end" else (item[0], tuple(values.index(value) for value in item[1])) for item in list_) for list_ in plain.causes[-1][1:]]
        self.assertEqual([told, others], named)
        return stand

    def test_errors_of_methods(self):
        watch = Watch(read_pipeline("(first 1 s)"), monitor_of("(only b (told 1))"), SMALL)
        stand = watch.begin()[0]
        state, other = ((1, "on"), (), ()), (("on",), (), ())
        self.assertTrue(watch.has(stand, state, other))
        for value in junk():
            self.assertIs(watch.is_stand(value), False)
            self.assertRaises(InvalidStand, watch.has, value, None, None)
            self.assertRaises(InvalidState, watch.has, stand, value, other)
            self.assertRaises(InvalidState, watch.has, stand, state, value)
            self.assertRaises(InvalidState, watch.stand, value, other)
            self.assertRaises(InvalidState, watch.stand, state, value)
            self.assertRaises(InvalidStand, watch.follow, value, None)
            self.assertRaises(InvalidOperation, watch.follow, stand, value)
            self.assertRaises(InvalidStand, watch.within, value, stand)
            self.assertRaises(InvalidStand, watch.within, stand, value)
            ways = watch.ways(value)
            with self.assertRaises(InvalidStand):
                next(ways)
        self.assertRaises(InvalidState, watch.stand, other, state)

    def test_errors(self):
        one, monitor = read_pipeline("s"), monitor_of("(told 1)")
        far = monitor_of("(told 0)")
        for value in junk():
            if not isinstance(value, Pipeline):
                self.assertRaises(InvalidPipeline, Watch, value, monitor, SMALL)
                self.assertRaises(InvalidPipeline, Watch, value, None, None)
            if not isinstance(value, Monitor):
                self.assertRaises(InvalidPipeline, Watch, one, value, SMALL)
                self.assertRaises(InvalidPipeline, Watch, one, value, None)
            self.assertRaises(InvalidLayout, Watch, one, monitor, value)
            self.assertRaises(InvalidLayout, Watch, one, far, value)
        self.assertRaises(InvalidPipeline, Watch, monitor, one, SMALL)
        self.assertRaises(InvalidPipeline, Watch, one, one, SMALL)
        self.assertRaises(InvalidPipeline, Pair, one, monitor, SMALL)
        for width in (0, 2, 3, 4):
            self.assertRaises(InvalidOperation, Watch, one, Monitor.of(("told", width)), SMALL)
        self.assertRaises(InvalidOperation, Watch, read_pipeline("t"), monitor, SMALL)
        self.assertRaises(InvalidOperation, Watch, one, monitor_of("(+ t (told 1))"), SMALL)
        self.assertEqual(Watch(one, monitor_of("(pairs s)"), SMALL).right.told, None)


class Kept(unittest.TestCase):
    def test_the_examples(self):
        silent = monitor_of("(only b (told 1))")
        layout = {"s": ("a", "b")}
        self.assertEqual([keeps(read_pipeline(text), silent, layout) for text in ("(only a s)", "s")], [True, False])
        self.assertEqual(find_paper(Watch(Pipeline.source("s"), silent, layout))[:3], ("row", ((0, "s", "b", 0),), 0))

    def test_at_the_begin_at_events_and_at_moments(self):
        for one, text, kept in (
            ("(one y)", "(told 0)", False), ("(one y)", "(only x (told 0))", True), ("s", "(one z)", False), ("s", "(only y (one z))", True),
            ("(first 1 s)", "(pairs (told 1))", True), ("(first 2 s)", "(pairs (told 1))", False), ("s", "(first 1 (only c (told 1)))", True),
            ("(changes s)", "(pick 0 (first 1 (only b (told 1))))", False), ("(quiet 3 s)", "(at (told 1) (after 2 z))", True),
            ("(quiet 2 s)", "(at (told 1) (after 2 z))", False), ("(quiet 3 s)", "(at (told 1) (after 3 z))", False), ("s", "(after 5 z)", False),
            ("s", "(until (after 5 z) (one y))", True), ("s", "(until (after 5 z) s)", False), ("(every 4 z)", "(else 5 (only y (told 0)) (one y))", False),
            ("(every 4 z)", "(only y (else 5 (told 0) (one y)))", True), ("(every 4 z)", "(only y (else 4 (told 0) (one y)))", False),
            ("(never 1)", "(told 1)", True), ("s", "(until (told 1) s)", False), ("s", "(until (never 0) (told 1))", True),
        ):
            watch = Watch(read_pipeline(one), monitor_of(text), BOTH)
            self.assertIs(keeps(watch.left, watch.right, BOTH), kept, (one, text))
            paper = find_paper(watch)
            self.assertEqual(paper[0], "list" if kept else "row")
            self.assertTrue(is_paper(watch, paper) and judge(watch, paper))
            if kept:
                self.assertEqual(paper[1], tuple(reached(watch)))
            else:
                tape = Tape(paper[1], last=paper[2])
                told = [pair for pair in observe(watch.left, watch.right, tape) if pair[1] != ("end",)]
                # Both lists of the begin are one there.
                self.assertEqual(len(told) if told[0][0][1] >= 0 else 1, 1)
                self.assertEqual(hastened(watch, tape), tape)

    def test_by_chance_beside_tapes(self):
        counts = {}
        for seed in range(500):
            chance = Chance(seed)
            pipeline = chance.pipeline(5)
            monitor = chance.monitor(pipeline.width, 6)
            try:
                kept = keeps(pipeline, monitor, LAYOUT, limit=60)
            except TooMany:
                continue
            watch = Watch(pipeline, monitor, LAYOUT)
            paper = find_paper(watch, limit=60)
            self.assertIs(kept, paper[0] == "list")
            if kept:
                for _ in range(6):
                    self.assertEqual([told for _, told in observe(pipeline, monitor, chance.tape(8)) if told != ("end",)], [])
            else:
                self.assertTrue(judge(watch, paper))
                plain = Beside(pipeline.tree, monitor.tree)
                causes = plain.run(Tape(paper[1], last=paper[2]))
                self.assertEqual([bool(set(told) - {"end"}) for _, _, told in causes], [False] * (len(causes) - 1) + [True])
            counts[kept] = counts.get(kept, 0) + 1
        self.assertGreater(min(counts.values()), 60, counts)

    def test_the_fewest_events_beside_all_short_tapes(self):
        layout = {"s": ("a",), "t": ("a",)}
        events = [(time, source, "a", value) for time in range(5) for source in "st" for value in (0, 1)]
        tapes = {0: [()], 1: [(event,) for event in events], 2: [(one, two) for one in events for two in events if one[0] <= two[0] and one[3] == 0]}
        for seed in range(60):
            chance = Chance(seed)
            pipeline = chance.pipeline(4)
            watch = Watch(pipeline, chance.monitor(pipeline.width, 5), layout)
            try:
                paper = find_paper(watch, limit=60)
            except TooMany:
                continue
            few = len(paper[1]) if paper[0] == "row" else 9
            for many in tapes:
                for row in tapes[many] if many < few else ():
                    told = observe(watch.left, watch.right, Tape(row, last=7))
                    self.assertEqual([pair for pair in told if pair[1] != ("end",)], [], (watch.left.tree, watch.right.tree, row))

    def test_from_starts_on(self):
        counts = {}
        for seed in range(300):
            chance = Chance(seed)
            pipeline = chance.pipeline(4)
            watch = Watch(pipeline, chance.monitor(pipeline.width, 6), LAYOUT)
            plain = Beside(watch.left.tree, watch.right.tree)
            ahead = chance.tape(5)
            plain.run(ahead)
            start = plain.states()
            try:
                paper = find_paper(watch, start=start, limit=60)
            except TooMany:
                continue
            self.assertIs(keeps(watch.left, watch.right, LAYOUT, start=start, limit=60), paper[0] == "list")
            self.assertTrue(is_paper(watch, paper, start=start))
            counts[paper[0]] = counts.get(paper[0], 0) + 1
            if paper[0] == "row":
                before = len(plain.causes)
                after = Beside(watch.left.tree, watch.right.tree)
                after.run(ahead + Tape(paper[1], last=paper[2]))
                told = [bool(set(told) - {"end"}) for _, _, told in after.causes[before:]]
                self.assertEqual(told, [False] * (len(told) - 1) + [True], (watch.left.tree, watch.right.tree, ahead.events, paper))
            else:
                for _ in range(4):
                    after = Beside(watch.left.tree, watch.right.tree)
                    after.run(ahead + chance.tape(6))
                    self.assertEqual([told for _, _, told in after.causes[len(plain.causes):] if set(told) - {"end"}], [])
        self.assertGreater(min(counts.values()), 60, counts)

    def test_limits(self):
        one, monitor = read_pipeline("(first 9 s)"), monitor_of("(only b (told 1))")
        self.assertTrue(keeps(one, monitor, SMALL, limit=10))
        with self.assertRaises(TooMany) as caught:
            keeps(one, monitor, SMALL, limit=9)
        self.assertEqual(caught.exception.limit, 9)
        self.assertTrue(keeps(one, monitor, SMALL, start=(((3, "on"), (), ()), (("on",), (), ())), limit=4))
        self.assertRaises(TooMany, keeps, one, monitor, SMALL, start=(((3, "on"), (), ()), (("on",), (), ())), limit=3)

    def test_errors(self):
        one, monitor, far = read_pipeline("(first 1 s)"), monitor_of("(only b (told 1))"), monitor_of("(told 0)")
        states = begin(one)[0], (("on",), (), ())
        for value in junk():
            if not isinstance(value, Pipeline):
                self.assertRaises(InvalidPipeline, keeps, value, monitor, SMALL)
                self.assertRaises(InvalidPipeline, keeps, value, None, None, start=0, limit=0)
            if not isinstance(value, Monitor):
                self.assertRaises(InvalidPipeline, keeps, one, value, SMALL)
            self.assertRaises(InvalidLayout, keeps, one, far, value, start=0, limit=0)
            if value is not None:
                self.assertRaises(InvalidState, keeps, one, monitor, SMALL, start=value)
                self.assertRaises(InvalidState, keeps, one, far, SMALL, start=value, limit=0)
            if not isinstance(value, int) or isinstance(value, bool) or not 1 <= value <= 900:
                with self.assertRaises(InvalidNumber) as caught:
                    keeps(one, far, SMALL, limit=value)
                self.assertIs(caught.exception.value, value)
        for start in ((states[1], states[0]), states[:1], states + states, list(states), (states[0], ("over", (), ()), None)):
            self.assertRaises(InvalidState, keeps, one, monitor, SMALL, start=start)
        self.assertTrue(keeps(one, monitor, SMALL, start=states))
        self.assertRaises(InvalidPipeline, keeps, one, one, SMALL)
        self.assertRaises(InvalidOperation, keeps, one, far, SMALL, limit=1)
        self.assertRaises(InvalidOperation, keeps, one, far, SMALL, start=(states[0], ("on", (), ())))
        self.assertRaises(InvalidOperation, keeps, read_pipeline("t"), monitor, SMALL, limit=1)
        self.assertRaises(InvalidOperation, keeps, one, monitor_of("(+ t (told 1))"), SMALL)


if __name__ == "__main__":
    unittest.main()
