"""Parts: which are closed, lifted, replaced, needless; states handed over, and parts exchanged while a pipeline is running."""

import unittest

from pushalike.base.tapes import Tape
from pushalike.errors import InvalidLayout, InvalidNumber, InvalidOperation, InvalidPaper, InvalidPipeline, InvalidState, NothingToUndo, TooMany, UnknownIndex
from pushalike.joint.monitors import Monitor, Watch, keeps
from pushalike.joint.papers import are_alike, find_paper, is_paper
from pushalike.joint.stands import Pair
from pushalike.run.live import Live
from pushalike.run.readings import read
from pushalike.run.states import is_state
from pushalike.tree.pipelines import Pipeline
from pushalike.tree.texts import read_pipeline, read_tree
from pushalike.use.parts import closed_paths, exchange, hand_over, lifted, needless, replace_part
from pushalike.use.wishes import Book
from tests.chance import LAYOUT, Chance
from tests.oracle import Machine
from tests.samples import S, junk
from tests.test_papers import KNOWN

SMALL = {"s": ("a",)}
BOTH = {"s": ("a", "b"), "t": ("a",)}
ALIKE = [(one, other) for one, other, few in KNOWN if few is None]


# Pipelines that reach so many joint stands with themselves, over three sources.
HUNDREDS = {500: read_pipeline("(+ (first 9 s) (+ (first 9 t) (first 4 u)))"), 501: read_pipeline("(then (+ (first 9 s) (+ (first 9 t) (first 4 u))) (first 1 s))")}


def wrong_limits():
    return [value for value in junk() if not isinstance(value, int) or isinstance(value, bool)] + [0, -1, 901, 10 ** 60]


def wrong_paths():
    return [value for value in junk() if value != ()] + [(True,), (False,), (0, 9), (-1,), [0], (0, None), ("0",)]


class Closed(unittest.TestCase):
    def test_known_trees(self):
        for text, paths in (
            ("s", [()]), ("(first 2 (first 5 s))", [(), (0,), (0, 0)]), ("(switch s it)", [(), (0,)]), ("(switch s (+ it t))", [(), (0,), (1, 1)]),
            ("(switch s (switch it it))", [(), (0,)]), ("(switch s (switch t it))", [(), (0,), (1,), (1, 0)]), ("(switch s (busy it (one z)))", [(), (0,), (1, 1)]),
            ("(switch (switch s it) (until t (after 5 z)))", [(), (0,), (0, 0), (1,), (1, 0), (1, 1)]), ("(busy s (busy (+ it t) (& it t)))", [(), (0,), (1, 0, 1), (1, 1, 1)]),
        ):
            self.assertEqual(list(closed_paths(read_pipeline(text))), paths, text)

    def test_closed_parts_are_pipelines_by_themselves(self):
        for seed in range(200):
            pipeline = Chance(seed).pipeline(9)
            found = list(closed_paths(pipeline))
            self.assertEqual(found, [path for path in pipeline.paths() if path in found])
            for path in pipeline.paths():
                try:
                    Pipeline.of(pipeline.part(path))
                    closed = True
                except InvalidPipeline:
                    closed = False
                self.assertIs(path in found, closed, (pipeline.tree, path))

    def test_errors(self):
        for value in junk():
            if not isinstance(value, Pipeline):
                paths = closed_paths(value)
                with self.assertRaises(InvalidPipeline):
                    next(paths)


class Lifted(unittest.TestCase):
    def test_known_trees(self):
        for text, path, other in (
            ("(first 2 (first 5 s))", (0,), "(first 5 s)"), ("(first 2 (first 5 s))", (0, 0), "(first 2 s)"), ("(+ (quiet 2 s) t)", (1,), "t"), ("(+ (quiet 2 s) t)", (0, 0), "(+ s t)"),
            ("(switch s (+ it t))", (1, 0), "(switch s it)"), ("(switch s (+ it t))", (0,), "s"), ("(switch s (until t t))", (1,), "(until t t)"),
            ("(else 3 s (late 2 1 t))", (1, 0), "(else 3 s t)"),
        ):
            self.assertEqual(lifted(read_pipeline(text), path).tree, read_tree(other))

    def test_errors(self):
        box = read_pipeline("(switch (pairs s) (pick 1 it))")
        for value in junk():
            if not isinstance(value, Pipeline):
                self.assertRaises(InvalidPipeline, lifted, value, ())
                self.assertRaises(InvalidPipeline, lifted, value, None)
        for value in wrong_paths():
            with self.assertRaises(UnknownIndex) as caught:
                lifted(box, value)
            self.assertIs(caught.exception.index, value)
        self.assertRaises(InvalidOperation, lifted, box, ())
        self.assertRaises(InvalidOperation, lifted, read_pipeline("s"), ())
        for path in ((1,), (0, 0)):
            self.assertRaises(InvalidPipeline, lifted, box, path)
        self.assertEqual(lifted(box, (1, 0)).tree, read_tree("(switch (pairs s) it)"))


class Replaced(unittest.TestCase):
    def test_alike_parts_within_others(self):
        frames = ("{0}", "(quiet 2 {0})", "(changes {0})", "(+ {0} s)", "(switch s (+ it {0}))", "(busy {0} (then it (first 1 t)))", "(then (first 1 {0}) {1})", "(else 2 {0} s)")
        for one, other in ALIKE:
            for frame in frames:
                try:
                    box = read_pipeline(frame.format(one, one))
                except InvalidPipeline:
                    continue
                for path in closed_paths(box):
                    if box.part(path) == read_tree(one):
                        whole = replace_part(box, path, read_pipeline(other), BOTH)
                        self.assertEqual(whole.tree, box.replaced(path, read_tree(other)).tree)
                        self.assertTrue(are_alike(box, whole, BOTH, limit=900), (box.tree, whole.tree))

    def test_alike_parts_in_every_larger_pipeline(self):
        # 0.21: nobody ever notices; the whole is read over tapes, and compared.
        parts = [(read_pipeline(one), read_pipeline(other)) for one, other in ALIKE]
        many = 0
        for seed in range(300):
            chance = Chance(seed)
            one, other = chance.one_of(parts)
            box = chance.pipeline(7)
            path = chance.one_of(closed_paths(box))
            try:
                box = box.replaced(path, one.tree)
                whole = replace_part(box, path, other, BOTH)
            except InvalidPipeline:
                continue
            for _ in range(3):
                tape = chance.tape(9)
                tape = Tape(tuple((time, source, letter if letter in BOTH[source] else "a", value) for time, source, letter, value in tape.events), last=tape.last)
                self.assertEqual(read(box, tape), read(whole, tape))
            try:
                self.assertTrue(are_alike(box, whole, BOTH, limit=60))
            except TooMany:
                pass
            many += 1
        self.assertGreater(many, 100)

    def test_errors(self):
        box, other = read_pipeline("(switch s (+ it (until t t)))"), read_pipeline("(first 1 t)")
        path = (1, 1)
        for value in junk():
            if not isinstance(value, Pipeline):
                self.assertRaises(InvalidPipeline, replace_part, value, path, other, BOTH)
                self.assertRaises(InvalidPipeline, replace_part, value, None, None, None, limit=0)
                self.assertRaises(InvalidPipeline, replace_part, box, path, value, BOTH)
                self.assertRaises(InvalidPipeline, replace_part, box, path, value, None, limit=0)
            self.assertRaises(InvalidLayout, replace_part, box, path, other, value)
            self.assertRaises(InvalidLayout, replace_part, box, (1, 0), other, value, limit=0)
        for value in wrong_paths():
            with self.assertRaises(UnknownIndex) as caught:
                replace_part(box, value, None, None, limit=0)
            self.assertIs(caught.exception.index, value)
        for value in wrong_limits():
            with self.assertRaises(InvalidNumber) as caught:
                replace_part(box, (1, 0), other, BOTH, limit=value)
            self.assertIs(caught.exception.value, value)
        for open_path in ((1,), (1, 0)):
            self.assertRaises(InvalidOperation, replace_part, box, open_path, other, BOTH, limit=1)
        for text in ("(pairs t)", "(never 0)", "u", "(first 2 t)", "t", "(never 1)", "(until u t)"):
            self.assertRaises(InvalidOperation, replace_part, box, path, read_pipeline(text), BOTH)
        self.assertRaises(InvalidOperation, replace_part, box, path, other, SMALL)
        with self.assertRaises(TooMany) as caught:
            replace_part(box, path, other, BOTH, limit=1)
        self.assertEqual(caught.exception.limit, 1)
        self.assertEqual(replace_part(box, path, other, BOTH, limit=2).tree, read_tree("(switch s (+ it (first 1 t)))"))

    def test_where_no_pipeline_is_left(self):
        box = read_pipeline("(changes (changes (changes (changes (changes (changes (changes (until s s))))))))")
        long = read_pipeline("(first 1 (only ab (only ab (only ab (only ab (only ab s))))))")
        self.assertEqual((len(box), len(long)), (10, 7))
        self.assertRaises(InvalidPipeline, replace_part, box, (0,) * 7, long, BOTH)
        self.assertEqual(len(replace_part(box, (0,) * 7, read_pipeline("(first 1 (only ab (only ab s)))"), BOTH)), 11)
        self.assertRaises(TooMany, replace_part, box, (0,) * 7, long, BOTH, limit=1)
        clocks = read_pipeline("(+ (late 3 2 s) (late 3 2 (never 1)))")
        more = read_pipeline("(quiet 3 (quiet 3 (never 1)))")
        self.assertRaises(InvalidPipeline, replace_part, clocks, (1, 0), more, BOTH)
        self.assertEqual(replace_part(clocks, (1, 0), read_pipeline("(quiet 3 (never 1))"), BOTH).clocks, 5)


class Needless(unittest.TestCase):
    def test_known_trees(self):
        for text, paths in (
            ("(first 2 (first 5 s))", ((0, 0),)), ("s", ()), ("(only ab s)", ((0,),)), ("(only a s)", ()), ("(changes (changes s))", ((0,), (0, 0))), ("(+ s t)", ()),
            ("(until s (never 0))", ((0,),)), ("(switch s it)", ((0,),)), ("(busy s (switch it it))", ((0,), (1, 0), (1, 1))), ("(at s s)", ((0,), (1,))),
            ("(spaced 2 (spaced 3 s))", ((0,),)), ("(again (first 1 s))", ((0, 0),)), ("(then s t)", ((0,),)), ("(else 3 (never 1) (never 1))", ((0,), (1,))), ("(pick 0 s)", ((0,),)),
            ("(+ (first 2 (only ab s)) t)", ((0, 0, 0),)), ("(pick 0,1 (pairs s))", ((0,),)), ("(pick 1,0 (pairs s))", ()),
        ):
            self.assertEqual(needless(read_pipeline(text), BOTH), paths, text)

    def test_beside_are_alike(self):
        many = 0
        for seed in range(300):
            chance = Chance(seed)
            pipeline = chance.pipeline(5)
            if seed % 2:
                path = chance.one_of(pipeline.paths())
                part = pipeline.part(path)
                try:
                    pipeline = pipeline.replaced(path, chance.one_of([("changes", ("changes", part)), ("only", ("a", "b", "c"), part), ("until", part, ("never", 0)), ("first", 9, part)]))
                except InvalidPipeline:
                    continue
            wanted = []
            try:
                for path in pipeline.paths():
                    if path:
                        try:
                            other = lifted(pipeline, path)
                        except InvalidPipeline:
                            continue
                        if other.width == pipeline.width and are_alike(pipeline, other, LAYOUT, limit=80):
                            wanted.append(path)
            except TooMany:
                self.assertRaises(TooMany, needless, pipeline, LAYOUT, limit=80)
                continue
            self.assertEqual(needless(pipeline, LAYOUT, limit=80), tuple(sorted(wanted)))
            many += len(wanted)
        self.assertGreater(many, 150)

    def test_errors(self):
        box = read_pipeline("(first 9 (only ab s))")
        for value in junk():
            if not isinstance(value, Pipeline):
                self.assertRaises(InvalidPipeline, needless, value, BOTH)
                self.assertRaises(InvalidPipeline, needless, value, None, limit=0)
            self.assertRaises(InvalidLayout, needless, box, value)
            self.assertRaises(InvalidLayout, needless, read_pipeline("u"), value, limit=0)
        for value in wrong_limits():
            with self.assertRaises(InvalidNumber) as caught:
                needless(read_pipeline("u"), BOTH, limit=value)
            self.assertIs(caught.exception.value, value)
        self.assertRaises(InvalidOperation, needless, read_pipeline("u"), BOTH, limit=1)
        self.assertRaises(InvalidOperation, needless, read_pipeline("(+ s u)"), BOTH)
        with self.assertRaises(TooMany) as caught:
            needless(box, BOTH, limit=9)
        self.assertEqual(caught.exception.limit, 9)
        self.assertEqual(needless(box, BOTH, limit=10), ((0, 0),))


class DefaultLimits(unittest.TestCase):
    def test_five_hundred_stands_and_one_more(self):
        layout = {"s": ("a",), "t": ("a",), "u": ("a",)}
        silent = Monitor.of(("only", ("b",), ("told", 1)))
        for many, box in HUNDREDS.items():
            self.assertEqual(len(find_paper(Pair(box, box, layout), limit=501)[1]), many)
            book, double = Book(layout), Pipeline.of(("only", ("a",), box.tree))
            book["silent"] = silent
            for call in (lambda: find_paper(Pair(box, box, layout)), lambda: are_alike(box, box, layout), lambda: keeps(box, silent, layout), lambda: book.kept(box),
                         lambda: replace_part(box, (), box, layout), lambda: needless(double, layout), lambda: exchange(Live(box), (), box, layout)):
                if many == 500:
                    call()
                else:
                    with self.assertRaises(TooMany) as caught:
                        call()
                    self.assertEqual(caught.exception.limit, 500)


class HandedOver(unittest.TestCase):
    def handed(self, pair, paper, state):
        other = hand_over(pair, paper, state)
        self.assertTrue(is_state(pair.right, other))
        self.assertTrue(any(pair.has(stand, state, other) for stand in paper[1]))
        self.assertEqual(find_paper(pair, start=(state, other), limit=900)[0], "list")
        return other

    def test_states_that_are_reached(self):
        for one, other in ALIKE:
            pair = Pair(read_pipeline(one), read_pipeline(other), BOTH)
            paper = find_paper(pair, limit=900)
            for seed in range(12):
                chance = Chance(seed)
                machine = Machine(pair.left.tree)
                tape = chance.tape(6)
                machine.run(Tape(tuple((time, source, letter if letter in BOTH[source] else "a", value - 1) for time, source, letter, value in tape.events), last=tape.last))
                self.handed(pair, paper, machine.state())

    def test_other_papers(self):
        pair = Pair(read_pipeline("(quiet 4 s)"), read_pipeline("(switch s (else 4 (never 1) it))"), SMALL)
        paper = find_paper(pair)
        state = (("a", "on"), (7,), (2,))
        right = self.handed(pair, paper, state)
        self.assertEqual(right, (("on", ("a", (1, "on"))), (7,), (2,)))
        for other in (("list", paper[1][::-1]), ("list", paper[1] + ((("b", "on"), ("on", ("b", (1, "on"))), (0, 0), ((0, 0, 0), (3, 0, 0), (3, 0, 0))),))):
            self.assertTrue(is_paper(pair, other))
            self.assertEqual(self.handed(pair, other, state), right)
        self.assertRaises(InvalidOperation, hand_over, pair, paper, (("b", "on"), (7,), (2,)))
        self.assertEqual(self.handed(pair, ("list", paper[1] + ((("b", "on"), ("on", ("b", (1, "on"))), (0, 0), ((0, 0, 0), (3, 0, 0), (3, 0, 0))),)), (("b", "on"), (7,), (2,))),
                         (("on", ("b", (1, "on"))), (7,), (2,)))

    def test_values_and_readings_that_are_the_second_ones_own(self):
        pair = Pair(read_pipeline("(until s (never 1))"), read_pipeline("(until s (only c (late 5 2 s)))"), SMALL)
        paper = find_paper(pair, limit=900)
        stands = tuple(stand for stand in paper[1] if len(stand[2]) == 2 and stand[2] == (0, 1))
        self.assertTrue(stands)
        self.handed(pair, paper, (("on", "on"), (), ()))
        self.handed(pair, ("list", stands + tuple(stand for stand in paper[1] if stand not in stands)), (("on", "on"), (), ()))
        kept = Pair(read_pipeline("(until (changes s) (never 1))"), read_pipeline("(until (changes s) (only c (changes s)))"), SMALL)
        paper = find_paper(kept)
        for value in (0, 1, 5, -3):
            self.assertEqual(self.handed(kept, paper, (((1, "on"), "on"), (value,), ()))[1], (value, value))
        never = Pair(read_pipeline("(until (changes s) (never 1))"), read_pipeline("(until (changes s) (only c (& s (changes s))))"), SMALL)
        paper = find_paper(never)
        other = self.handed(never, paper, (((1, "on"), "on"), (4,), ()))
        self.assertEqual(other[1][0], 4)

    def test_by_chance(self):
        many = 0
        for seed in range(400):
            chance = Chance(seed)
            pair = Pair(*chance.near_pair(6), BOTH)
            try:
                paper = find_paper(pair, limit=60)
            except TooMany:
                continue
            if paper[0] == "list":
                machine, tape = Machine(pair.left.tree), chance.tape(8)
                machine.run(Tape(tuple((time, source, letter if letter in BOTH[source] else "a", value) for time, source, letter, value in tape.events), last=tape.last))
                self.handed(pair, ("list", tuple(chance.random.sample(paper[1], len(paper[1])))), machine.state())
                many += 1
        self.assertGreater(many, 150)

    def test_errors(self):
        pair = Pair(read_pipeline("(until s s)"), read_pipeline("(first 1 s)"), SMALL)
        paper, state = find_paper(pair), (("on", "on"), (), ())
        self.assertEqual(hand_over(pair, paper, state), ((1, "on"), (), ()))
        self.assertEqual(hand_over(pair, paper, ("over", (), ())), ("over", (), ()))
        for value in junk():
            if not isinstance(value, Pair):
                self.assertRaises(InvalidOperation, hand_over, value, paper, state)
                self.assertRaises(InvalidOperation, hand_over, value, None, None)
            self.assertRaises(InvalidPaper, hand_over, pair, value, state)
            self.assertRaises(InvalidPaper, hand_over, pair, value, None)
            self.assertRaises(InvalidState, hand_over, pair, paper, value)
        watch = Watch(pair.left, Monitor.of(("only", ("b",), S)), SMALL)
        self.assertRaises(InvalidOperation, hand_over, watch, find_paper(watch), state)
        self.assertRaises(InvalidOperation, hand_over, watch, None, None)
        self.assertRaises(InvalidPaper, hand_over, pair, ("list", paper[1][:1]), None)
        self.assertRaises(InvalidState, hand_over, pair, paper, ((1, "on"), (), ()))
        far = Pair(read_pipeline("(first 2 s)"), read_pipeline("(first 3 s)"), SMALL)
        self.assertRaises(InvalidPaper, hand_over, far, find_paper(far), ((2, "on"), (), ()))
        start = Pair(read_pipeline("(first 3 s)"), read_pipeline("(first 3 s)"), SMALL)
        later = find_paper(start, start=(((2, "on"), (), ()), ((2, "on"), (), ())))
        self.assertRaises(InvalidPaper, hand_over, start, later, ((2, "on"), (), ()))
        clocks = Pair(read_pipeline("(then (quiet 3 s) t)"), read_pipeline("(then (quiet 3 s) t)"), {"s": ("a",), "t": ("a",)})
        self.assertRaises(InvalidOperation, hand_over, clocks, find_paper(clocks), ((2, "on"), (), ()))
        self.assertRaises(InvalidOperation, hand_over, clocks, find_paper(clocks), ((1, ("b", "on")), (7,), (2,)))


class Exchanged(unittest.TestCase):
    def test_the_example(self):
        live = Live(read_pipeline("(first 2 (first 5 s))"))
        self.assertEqual(live.push("s", "a", 1), (("a", (1,)),))
        self.assertIsNone(exchange(live, (), read_pipeline("(first 2 s)"), SMALL))
        self.assertEqual([str(live), live.state, live.push("s", "a", 2)], ["live pipeline of 2 parts at 0", ((1, "on"), (), ()), (("a", (2,)), "end")])

    def test_a_step_like_others(self):
        live = Live(read_pipeline("(quiet 3 (until s s))"))
        live.push("s", "a", 7)
        live.wait(0)
        before = live.twin()
        exchange(live, (0,), read_pipeline("(first 1 s)"), SMALL)
        after = live.twin()
        self.assertEqual([len(live), live.now, live.told, live.tape == before.tape], [3, 0, before.told, True])
        self.assertEqual(live.pipeline, read_pipeline("(quiet 3 (first 1 s))"))
        self.assertFalse(live == before)
        live.undo()
        self.assertTrue(live == before and live.state == before.state)
        live.redo()
        self.assertTrue(live == after and live.state == after.state)
        live.undo(3)
        self.assertEqual([live.pipeline, len(live)], [read_pipeline("(quiet 3 (until s s))"), 0])
        live.redo(3)
        self.assertTrue(live == after)
        self.assertRaises(NothingToUndo, live.redo)
        live.undo()
        exchange(live, (0,), read_pipeline("(first 1 (first 2 s))"), SMALL)
        self.assertRaises(NothingToUndo, live.redo)
        self.assertEqual(str(live), "live pipeline of 4 parts at 0")
        self.assertEqual((live.tape == before.tape, live.told), (True, before.told))

    def test_places_of_events_go_on(self):
        live = Live(read_pipeline("(only a s)"))
        live.push("s", "a", 1)
        exchange(live, (), read_pipeline("s"), SMALL)
        live.push("s", "a", 2)
        self.assertEqual(live.told, (((0, 1), (("a", (1,)),)), ((0, 2), (("a", (2,)),))))
        live.wait(2)
        exchange(live, (), read_pipeline("(only a s)"), SMALL)
        live.push("s", "a", 3)
        self.assertEqual(live.told[2][0], (2, 1))
        self.assertEqual(live.told, read(live.pipeline, live.tape))

    def test_in_trials_and_beside_twins(self):
        live = Live(read_pipeline("(until s s)"))
        twin = live.twin()
        other = read_pipeline("(first 1 s)")
        with live.trial() as inner:
            exchange(inner, (), other, SMALL)
            self.assertEqual([str(live), len(live)], ["live pipeline of 2 parts at 0", 1])
        self.assertEqual([str(live), len(live), live == twin], ["live pipeline of 3 parts at 0", 0, True])
        self.assertEqual(live.tried(lambda box: [exchange(box, (), other, SMALL), str(box)]), [None, "live pipeline of 2 parts at 0"])
        self.assertEqual(str(live), "live pipeline of 3 parts at 0")
        exchange(live, (), other, SMALL)
        third = live.twin()
        self.assertEqual([str(twin), str(third), live == third], ["live pipeline of 3 parts at 0", "live pipeline of 2 parts at 0", True])
        third.undo()
        self.assertEqual([str(third), str(live), third == twin], ["live pipeline of 3 parts at 0", "live pipeline of 2 parts at 0", True])
        twin.push("s", "a", 1)
        self.assertEqual(len(live.told), 0)

    def test_nobody_notices(self):
        many = 0
        for seed in range(200):
            chance = Chance(seed)
            one, other = chance.one_of(ALIKE)
            frame = chance.one_of(["{0}", "(quiet 2 {0})", "(+ {0} {0})", "(switch (+ s t) (until {0} (quiet 1 t)))", "(busy {0} (late 2 1 {0}))", "(pick - {0})"])
            try:
                box = read_pipeline(frame.format(one))
            except InvalidPipeline:
                continue
            paths = [path for path in closed_paths(box) if box.part(path) == read_tree(one)]
            live, plain = Live(box), Live(box)
            for step in range(14):
                kind = chance.random.random()
                if kind < 0.25:
                    path = chance.one_of(paths)
                    new = other if live.pipeline.part(path) == read_tree(one) else one
                    try:
                        exchange(live, path, read_pipeline(new), BOTH, limit=900)
                    except InvalidPipeline:
                        continue
                    self.assertEqual(live.state, self.state_after(live))
                    many += 1
                elif kind < 0.6:
                    source = chance.one_of(BOTH)
                    happened = source, chance.one_of(BOTH[source]), chance.random.randint(0, 2)
                    self.assertEqual(live.push(*happened), plain.push(*happened))
                else:
                    time = chance.random.randint(0, 3)
                    self.assertEqual(live.wait(time), plain.wait(time))
                self.assertEqual((live.told, live.now), (plain.told, plain.now))
                self.assertEqual(live.told, read(live.pipeline, live.tape))
        self.assertGreater(many, 300)

    def state_after(self, live):
        machine = Machine(live.pipeline.tree)
        machine.run(live.tape)
        return machine.state()

    def test_a_thousand_causes_and_one_more(self):
        box, other = read_pipeline("(until s s)"), read_pipeline("(first 1 s)")
        live = Live(box)
        for _ in range(999):
            live.push("t", "a", 1)
        exchange(live, (), other, BOTH)
        self.assertEqual(len(live), 1000)
        live.push("t", "a", 1)
        twin = live.twin()
        with self.assertRaises(TooMany) as caught:
            exchange(live, (), box, BOTH)
        self.assertEqual((caught.exception.limit, live == twin, len(live), live.pipeline), (1000, True, 1001, other))
        timers = Live(read_pipeline("(+ (only c (every 1 z)) (never 0))"))
        timers.wait(999)
        exchange(timers, (0,), read_pipeline("(never 0)"), SMALL)
        exchange(timers, (0,), read_pipeline("(only c (every 1 z))"), SMALL)
        timers.wait(1)
        exchange(timers, (0,), read_pipeline("(never 0)"), SMALL)
        self.assertRaises(TooMany, exchange, timers, (0,), read_pipeline("(only c (every 1 z))"), SMALL)
        timers.wait(10 ** 50)
        exchange(timers, (0,), read_pipeline("(only a (never 0))"), SMALL)
        self.assertEqual(timers.state, ((("on",), "on"), (), ()))

    def test_errors(self):
        live, other = Live(read_pipeline("(switch s (+ it (until t t)))")), read_pipeline("(first 1 t)")
        live.push("s", "a", 1)
        live.push("s", "b", 1)
        live.undo()
        twin = live.twin()

        def raises(error, *arguments, **more):
            with self.assertRaises(error) as caught:
                exchange(*arguments, **more)
            self.assertTrue(live == twin and live.state == twin.state and len(live) == len(twin))
            live.redo()
            live.undo()
            return caught.exception

        path = (1, 1)
        for value in junk():
            if not isinstance(value, Live):
                raises(InvalidOperation, value, path, other, BOTH)
                raises(InvalidOperation, value, None, None, None, limit=0)
            if not isinstance(value, Pipeline):
                raises(InvalidPipeline, live, path, value, BOTH)
                raises(InvalidPipeline, live, path, value, None, limit=0)
            raises(InvalidLayout, live, path, other, value)
            raises(InvalidLayout, live, (1, 0), other, value, limit=0)
        for value in wrong_paths():
            self.assertIs(raises(UnknownIndex, live, value, None, None, limit=0).index, value)
        for value in wrong_limits():
            self.assertIs(raises(InvalidNumber, live, (1, 0), other, BOTH, limit=value).value, value)
        raises(InvalidOperation, live, (1, 0), other, BOTH)
        raises(InvalidOperation, live, path, read_pipeline("(first 2 t)"), BOTH)
        raises(InvalidOperation, live, path, read_pipeline("(pairs t)"), BOTH)
        self.assertEqual(raises(TooMany, live, path, other, BOTH, limit=1).limit, 1)
        raises(TooMany, live, path, other, {"t": ("a",)}, limit=1)
        # The tape has events of s, which this layout does not have.
        raises(InvalidOperation, live, path, other, {"t": ("a",)})
        raises(InvalidOperation, live, path, other, {"s": ("b",), "t": ("a",)})
        exchange(live, path, other, {"s": ("a",), "t": ("a",)})
        self.assertRaises(NothingToUndo, live.redo)

    def test_where_no_pipeline_is_left(self):
        box = read_pipeline("(changes (changes (changes (changes (changes (changes (changes (until s s))))))))")
        live = Live(box)
        live.push("u", "a", 1)
        long = read_pipeline("(first 1 (only ab (only ab (only ab (only ab (only ab s))))))")
        self.assertRaises(InvalidPipeline, exchange, live, (0,) * 7, long, BOTH)
        self.assertRaises(InvalidOperation, exchange, live, (0,) * 7, read_pipeline("(first 1 s)"), BOTH)


if __name__ == "__main__":
    unittest.main()
