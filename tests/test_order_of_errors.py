"""Several wrong arguments at once: of all functions and methods of the interface the first error that applies is raised."""

import unittest
from itertools import combinations

from pushalike.base.tapes import Tape
from pushalike.errors import (
    InvalidBounds, InvalidChain, InvalidLayout, InvalidNumber, InvalidOperation, InvalidPaper, InvalidPipeline, InvalidStand, InvalidState, InvalidTape,
    NothingToUndo, ParseError, TooMany, UnknownIndex, UnknownName,
)
from pushalike.joint.bounds import Bounds
from pushalike.joint.monitors import Monitor, Watch, keeps, observe
from pushalike.joint.papers import are_alike, find_paper, hastened, is_paper, turned
from pushalike.joint.stands import Pair
from pushalike.run.live import Live
from pushalike.run.readings import difference, read
from pushalike.run.states import begin, due_in, event, is_state, moment, waited
from pushalike.text.papers import read_paper, write_paper
from pushalike.text.shell import Shell
from pushalike.tree.texts import read_pipeline, read_tree, write_pipeline, write_tree
from pushalike.use.chains import Chain, trim
from pushalike.use.parts import closed_paths, exchange, hand_over, lifted, needless, replace_part
from pushalike.use.wishes import Book, answered, apart, at_most, lively, no_letter, single

SMALL = {"s": ("a",)}
BOX, OTHER, FAR = read_pipeline("(until s s)"), read_pipeline("(first 1 s)"), read_pipeline("(pairs u)")
STATE, OVER = begin(BOX)[0], ("over", (), ())
PAIR = Pair(BOX, OTHER, SMALL)
PAPER = find_paper(PAIR)
STAND = PAPER[1][1]
MONITOR, DEAF = Monitor.of(("only", ("b",), ("told", 1))), Monitor.of(("told", 0))
WATCH = Watch(BOX, MONITOR, SMALL)
QUIET = read_pipeline("(quiet 3 s)")
KEPT = (("a", "on"), (7,), (1,))
LONG = Tape(((0, "s", "a", 1),) * 1000)
COPY = read_pipeline("(switch s (+ it (until t t)))")
BOTH = {"s": ("a",), "t": ("a",)}
PIPELINE, NOTHING = [None, BOX.tree, Tape(), MONITOR], [None, [], {}, "", 0, True, ()]
LAYOUTS = [None, {}, {"s": ["a"]}, {"it": ("a",)}, (("s", ("a",)),)]
LIMITS = [0, 901, True, None, "5", (5,)]
NUMBERS = [-1, True, None, "1", (1,), 10 ** 60]
PATHS = [None, (9,), [0], (True,), 0, "()"]
STARTS = [0, (), (STATE,), [STATE, STATE], (OVER, None), (STATE, STATE, STATE), "start"]


# For each call: the call itself, for each argument a right value, wrong ones and the error of these (None if there is none), and
# arguments that are right by themselves, with the error that then comes.
CALLS = {
    "Tape": (lambda events, last: Tape(events, last=last), [(((2, "s", "a", 1),), [None, [], ((2, "s", "a"),)], InvalidTape), (9, [1, -1, "9", True], InvalidTape)], []),
    "Tape.upto": (lambda time: Tape(last=3).upto(time), [(2, [4, -1, True, None], InvalidNumber)], []),
    "Tape >>": (lambda time: Tape(last=3) >> time, [(2, NUMBERS, InvalidNumber)], [((10 ** 60 - 1,), InvalidTape)]),
    "Tape.changed": (lambda table: Tape().changed(table), [({1: 2}, [None, {1: True}, {"a": 1}, [(1, 2)]], InvalidTape)], []),
    "Tape.fits": (lambda layout: Tape().fits(layout), [(SMALL, LAYOUTS, InvalidLayout)], []),
    "Pipeline.or_else": (lambda d, other: BOX.or_else(d, other), [(3, [], None), (OTHER, PIPELINE, InvalidOperation)], [((0, OTHER), InvalidPipeline), ((3, FAR), InvalidPipeline)]),
    "Pipeline.replaced": (lambda path, tree: BOX.replaced(path, tree), [((0,), PATHS, UnknownIndex), (("source", "t"), [None, (), "s", ("told", 1), BOX], InvalidPipeline)], []),
    "is_state": (lambda pipeline, value: is_state(pipeline, value), [(BOX, PIPELINE, InvalidPipeline), (STATE, [], None)], []),
    "begin": (begin, [(BOX, PIPELINE, InvalidPipeline)], []),
    "event": (event, [(QUIET, PIPELINE, InvalidPipeline), (KEPT, NOTHING, InvalidState), ("s", [], None), ("a", [], None), (1, [], None)],
              [((QUIET, KEPT, "it", "a", 1), InvalidTape), ((QUIET, KEPT, "s", "A", 1), InvalidTape), ((QUIET, KEPT, "s", "a", True), InvalidTape)]),
    "due_in": (due_in, [(QUIET, PIPELINE, InvalidPipeline), (KEPT, NOTHING, InvalidState)], []),
    "waited": (waited, [(QUIET, PIPELINE, InvalidPipeline), (KEPT, NOTHING, InvalidState), (1, [2, -1, None, True], InvalidNumber)], []),
    "moment": (moment, [(QUIET, PIPELINE, InvalidPipeline), (KEPT, NOTHING, InvalidState)], [((QUIET, ((None, "on"), (), ())), InvalidOperation)]),
    "read": (read, [(BOX, PIPELINE, InvalidPipeline), (Tape(), [None, (), BOX], InvalidTape)], [((BOX, LONG), TooMany)]),
    "difference": (difference, [(BOX, PIPELINE, InvalidPipeline), (FAR, PIPELINE, InvalidPipeline), (Tape(), [None, (), BOX], InvalidTape)], [((BOX, FAR, LONG), TooMany)]),
    "Live": (Live, [(BOX, PIPELINE, InvalidPipeline)], []),
    "Live.undo": (lambda many: Live(BOX).undo(many), [(0, NUMBERS, InvalidNumber)], [((1,), NothingToUndo)]),
    "Bounds.cut": (lambda i, j, most: Bounds.zero(2).cut(i, j, most), [(1, [3, -1, True, None], UnknownIndex), (2, [3, -1, True, None], UnknownIndex), (4, [True, None, "1", 10 ** 60], InvalidNumber)], []),
    "Bounds.risen": (lambda tops: Bounds.zero(1).risen(tops), [((4,), [None, (), [4], (True,), (1, 2)], InvalidBounds)], []),
    "Pair": (Pair, [(BOX, PIPELINE, InvalidPipeline), (OTHER, PIPELINE, InvalidPipeline), (SMALL, LAYOUTS, InvalidLayout)],
             [((FAR, OTHER, SMALL), InvalidOperation), ((BOX, FAR, SMALL), InvalidOperation), ((BOX, OTHER, {"t": ("a",)}), InvalidOperation)]),
    "Pair.stand": (PAIR.stand, [(STATE, NOTHING, InvalidState), (begin(OTHER)[0], NOTHING, InvalidState)], []),
    "Pair.has": (PAIR.has, [(STAND, NOTHING, InvalidStand), (STATE, NOTHING, InvalidState), (begin(OTHER)[0], NOTHING, InvalidState)], []),
    "Pair.follow": (PAIR.follow, [(STAND, NOTHING, InvalidStand), (("event", "s", "a", 0), [], None)], [((STAND, None), InvalidOperation), ((STAND, ("moment", ())), InvalidOperation)]),
    "Pair.within": (PAIR.within, [(STAND, NOTHING, InvalidStand), (STAND, NOTHING, InvalidStand)], []),
    "Pair.parted": (PAIR.parted, [((), [None, [], "", ("end", "end")], InvalidOperation), ((), [None, [], "", ("end", "end")], InvalidOperation)], []),
    "find_paper": (lambda pair, start, limit: find_paper(pair, start=start, limit=limit),
                   [(PAIR, [None, BOX, PAPER], InvalidOperation), (None, STARTS, InvalidState), (500, LIMITS, InvalidNumber)], [((PAIR, None, 1), TooMany)]),
    "find_paper of a watch": (lambda pair, start, limit: find_paper(pair, start=start, limit=limit),
                              [(WATCH, [None, BOX, MONITOR], InvalidOperation), (None, STARTS, InvalidState), (500, LIMITS, InvalidNumber)], [((WATCH, None, 1), TooMany)]),
    "is_paper": (lambda pair, value, start: is_paper(pair, value, start=start), [(PAIR, [None, BOX, PAPER], InvalidOperation), (PAPER, [], None), (None, STARTS, InvalidState)], []),
    "are_alike": (lambda one, other, layout, start, limit: are_alike(one, other, layout, start=start, limit=limit),
                  [(BOX, PIPELINE, InvalidPipeline), (OTHER, PIPELINE, InvalidPipeline), (SMALL, LAYOUTS, InvalidLayout), (None, STARTS, InvalidState), (500, LIMITS, InvalidNumber)],
                  [((BOX, FAR, SMALL, None, 1), InvalidOperation), ((BOX, OTHER, {"t": ("a",)}, None, 500), InvalidOperation), ((BOX, OTHER, SMALL, None, 1), TooMany)]),
    "turned": (turned, [(PAIR, [None, BOX, WATCH], InvalidOperation), (PAPER, NOTHING + [PAPER[1], ("list", ()), list(PAPER)], InvalidPaper)], []),
    "hastened": (hastened, [(PAIR, [None, BOX, PAPER], InvalidOperation), (Tape(), [None, (), Tape(((0, "t", "a", 1),)), Tape(((0, "s", "b", 1),) * 2000)], InvalidTape)], [((PAIR, LONG), TooMany)]),
    "Monitor.of": (Monitor.of, [(("told", 1), NOTHING + [("it",), ("+", ("told", 1), ("told", 0))], InvalidPipeline)], []),
    "Watch": (Watch, [(BOX, PIPELINE, InvalidPipeline), (MONITOR, [None, BOX, MONITOR.tree], InvalidPipeline), (SMALL, LAYOUTS, InvalidLayout)],
              [((BOX, DEAF, SMALL), InvalidOperation), ((FAR, MONITOR, SMALL), InvalidOperation), ((BOX, MONITOR, {"t": ("a",)}), InvalidOperation)]),
    "observe": (observe, [(BOX, PIPELINE, InvalidPipeline), (MONITOR, [None, BOX, MONITOR.tree], InvalidPipeline), (Tape(), [None, (), BOX], InvalidTape)],
                [((BOX, DEAF, LONG), InvalidOperation), ((BOX, MONITOR, LONG), TooMany)]),
    "keeps": (lambda one, other, layout, start, limit: keeps(one, other, layout, start=start, limit=limit),
              [(BOX, PIPELINE, InvalidPipeline), (MONITOR, [None, BOX, MONITOR.tree], InvalidPipeline), (SMALL, LAYOUTS, InvalidLayout), (None, STARTS, InvalidState), (500, LIMITS, InvalidNumber)],
              [((BOX, DEAF, SMALL, None, 1), InvalidOperation), ((BOX, MONITOR, {"t": ("a",)}, None, 500), InvalidOperation), ((BOX, MONITOR, SMALL, None, 1), TooMany)]),
    "no_letter": (lambda letters, width: no_letter(letters, width=width), [(("a",), [None, (), "a", ["a"], ("b", "a")], InvalidPipeline), (1, [5, -1, True, None, "1"], InvalidNumber)], []),
    "apart": (lambda d, width: apart(d, width=width), [(3, [0, True, None, 10 ** 40], InvalidPipeline), (1, [5, -1, True, None, "1"], InvalidNumber)], []),
    "at_most": (lambda n, d, width: at_most(n, d, width=width),
                [(1, [0, 4, True, None], InvalidPipeline), (3, [0, True, None, 10 ** 40], InvalidPipeline), (1, [5, -1, True, None, "1"], InvalidNumber)], []),
    "single": (lambda width: single(width=width), [(1, [5, -1, True, None, "1"], InvalidNumber)], []),
    "lively": (lambda d, width: lively(d, width=width), [(3, [0, True, None, 10 ** 40], InvalidPipeline), (1, [5, -1, True, None, "1"], InvalidNumber)], []),
    "answered": (lambda layout, source, d, width: answered(layout, source, d, width=width),
                 [(SMALL, LAYOUTS, InvalidLayout), ("s", ["t", None, [], ("s",), "it"], UnknownName), (3, [0, True, None, 10 ** 40], InvalidPipeline), (1, [5, -1, True, None, "1"], InvalidNumber)], []),
    "Book": (Book, [(SMALL, LAYOUTS, InvalidLayout)], []),
    "Book.put": (lambda name, monitor: Book(SMALL).put(name, monitor), [("calm", [None, [], "it", "Calm", ()], InvalidOperation), (MONITOR, [None, BOX, MONITOR.tree], InvalidOperation)], []),
    "Book.kept": (lambda pipeline, limit: wrong_book().kept(pipeline, limit=limit), [(OTHER, PIPELINE, InvalidPipeline), (500, LIMITS, InvalidNumber)],
                  [((OTHER, 1), InvalidOperation), ((OTHER, 500), InvalidOperation)]),
    "closed_paths": (lambda pipeline: list(closed_paths(pipeline)), [(BOX, PIPELINE, InvalidPipeline)], []),
    "lifted": (lifted, [(COPY, PIPELINE, InvalidPipeline), ((0,), PATHS, UnknownIndex)], [((COPY, ()), InvalidOperation), ((read_pipeline("(switch s it)"), (1,)), InvalidPipeline)]),
    "replace_part": (lambda pipeline, path, other, layout, limit: replace_part(pipeline, path, other, layout, limit=limit),
                     [(COPY, PIPELINE, InvalidPipeline), ((1, 1), PATHS, UnknownIndex), (read_pipeline("(first 1 t)"), PIPELINE, InvalidPipeline), (BOTH, LAYOUTS, InvalidLayout), (500, LIMITS, InvalidNumber)],
                     [((COPY, (1,), BOX, BOTH, 1), InvalidOperation), ((COPY, (1, 1), FAR, BOTH, 1), InvalidOperation), ((COPY, (0,), BOX, BOTH, 500), InvalidOperation),
                      ((COPY, (1, 1), read_pipeline("(first 1 t)"), BOTH, 1), TooMany)]),
    "needless": (lambda pipeline, layout, limit: needless(pipeline, layout, limit=limit), [(BOX, PIPELINE, InvalidPipeline), (SMALL, LAYOUTS, InvalidLayout), (500, LIMITS, InvalidNumber)],
                 [((FAR, SMALL, 1), InvalidOperation), ((read_pipeline("(only a s)"), SMALL, 500), None)]),
    "hand_over": (hand_over, [(PAIR, [None, BOX, WATCH], InvalidOperation), (PAPER, NOTHING + [("row", (), 0, ())], InvalidPaper), (STATE, NOTHING + [begin(OTHER)[0]], InvalidState)], []),
    "exchange": (lambda live, path, other, layout, limit: exchange(live, path, other, layout, limit=limit),
                 [(lambda: Live(COPY), [None, COPY, Tape()], InvalidOperation), ((1, 1), PATHS, UnknownIndex), (read_pipeline("(first 1 t)"), PIPELINE, InvalidPipeline), (BOTH, LAYOUTS, InvalidLayout),
                  (500, LIMITS, InvalidNumber)],
                 [((lambda: Live(COPY), (1,), BOX, BOTH, 1), InvalidOperation), ((lambda: Live(COPY), (1, 1), read_pipeline("(first 1 t)"), BOTH, 1), TooMany),
                  ((lambda: pushed(COPY, "u"), (1, 1), read_pipeline("(first 1 t)"), BOTH, 500), InvalidOperation), ((lambda: pushed(COPY, "s"), (0,), BOX, BOTH, 500), InvalidOperation)]),
    "Chain": (Chain, [(SMALL, LAYOUTS, InvalidLayout), (BOX, PIPELINE, InvalidPipeline)], [((SMALL, FAR), InvalidOperation)]),
    "Chain.of": (Chain.of, [(SMALL, LAYOUTS, InvalidLayout), (BOX, PIPELINE, InvalidPipeline), ((), [], None)], [((SMALL, FAR, None), InvalidOperation), ((SMALL, BOX, None), InvalidChain), ((SMALL, BOX, (None,)), InvalidChain)]),
    "Chain.step": (lambda path, other, limit: Chain(BOTH, COPY).step(path, other, limit=limit),
                   [((1, 1), PATHS, UnknownIndex), (read_pipeline("(first 1 t)"), PIPELINE, InvalidPipeline), (500, LIMITS, InvalidNumber)],
                   [(((1,), BOX, 1), InvalidOperation), (((1, 1), read_pipeline("(first 1 t)"), 1), TooMany)]),
    "trim": (lambda pipeline, layout, limit: trim(pipeline, layout, limit=limit), [(BOX, PIPELINE, InvalidPipeline), (SMALL, LAYOUTS, InvalidLayout), (500, LIMITS, InvalidNumber)],
             [((FAR, SMALL, 1), InvalidOperation), ((read_pipeline("(first 9 (only a s))"), SMALL, 1), TooMany)]),
    "write_tree": (write_tree, [(("told", 1), NOTHING, InvalidPipeline)], []),
    "write_pipeline": (write_pipeline, [(BOX, PIPELINE, InvalidPipeline)], []),
    "read_tree": (read_tree, [("s", [None, [], "", "s ", "(s)"], ParseError)], []),
    "write_paper": (write_paper, [(PAPER, NOTHING, InvalidPaper)], []),
    "read_paper": (read_paper, [("list", [None, [], "", "row"], ParseError)], []),
    "Shell": (Shell, [(SMALL, LAYOUTS, InvalidLayout)], []),
}


def wrong_book():
    """A book whose first monitor hears pipelines of another width."""
    book = Book(SMALL)
    book["a"], book["b"] = DEAF, MONITOR
    return book


def pushed(pipeline, source):
    live = Live(pipeline)
    live.push(source, "b" if source == "s" else "a", 1)
    return live


class Orders(unittest.TestCase):
    def raised(self, call, values):
        """The class of the error that a call raises, or None."""
        values = [value() if type(value) is type(pushed) and value.__name__ == "<lambda>" else value for value in values]
        try:
            call(*values)
        except Exception as error:
            return type(error)
        return None

    def test_right_arguments(self):
        for name, (call, arguments, _) in CALLS.items():
            error = self.raised(call, [right for right, _, _ in arguments])
            self.assertEqual(error, InvalidOperation if name == "Book.kept" else None, name)

    def test_each_wrong_argument(self):
        for name, (call, arguments, _) in CALLS.items():
            for at, (_, wrong, error) in enumerate(arguments):
                for value in wrong:
                    values = [right for right, _, _ in arguments]
                    values[at] = value
                    self.assertEqual(self.raised(call, values), error, (name, at, value))

    def test_several_wrong_arguments(self):
        many = 0
        for name, (call, arguments, _) in CALLS.items():
            places = [at for at, (_, wrong, _) in enumerate(arguments) if wrong]
            for size in range(2, len(places) + 1):
                for chosen in combinations(places, size):
                    for turn in range(4):
                        values = [right for right, _, _ in arguments]
                        for at in chosen:
                            values[at] = arguments[at][1][(turn + at) % len(arguments[at][1])]
                        self.assertEqual(self.raised(call, values), arguments[chosen[0]][2], (name, chosen, values))
                        many += 1
        self.assertGreater(many, 500)

    def test_what_comes_then(self):
        for name, (call, arguments, thens) in CALLS.items():
            for values, error in thens:
                self.assertEqual(self.raised(call, values), error, (name, values))
                for at, (_, wrong, earlier) in enumerate(arguments):
                    for value in wrong:
                        others = list(values)
                        others[at] = value
                        self.assertEqual(self.raised(call, others), earlier, (name, others))


class Conventions(unittest.TestCase):
    def test_generators_raise_at_their_first_result(self):
        for rows, error in ((closed_paths(None), InvalidPipeline), (PAIR.ways(None), InvalidStand), (WATCH.ways(None), InvalidStand)):
            with self.assertRaises(error):
                next(rows)

    def test_what_can_be_iterated_over(self):
        for value in (Tape(), BOX, Live(BOX), Bounds.zero(1), PAIR, WATCH, MONITOR, Book(SMALL), Chain(SMALL, BOX), Shell(SMALL)):
            with self.assertRaises(TypeError):
                iter(value)

    def test_errors(self):
        for name, error in (("index", ParseError(3)), ("name", UnknownName("s")), ("index", UnknownIndex(4)), ("many", NothingToUndo(5)), ("limit", TooMany(6)), ("value", InvalidNumber(7))):
            self.assertIsNotNone(getattr(error, name))

    def test_dicts_ascend(self):
        layout = {"t": ("a",), "b": ("a",), "s": ("a",)}
        for value in (Pair(BOX, OTHER, layout), Watch(BOX, MONITOR, layout), Chain(layout, BOX)):
            self.assertEqual(list(value.layout.items()), sorted(layout.items()))

    def test_arguments_are_not_changed(self):
        layout = {"t": ("a",), "s": ("a",)}
        steps = Chain(layout, COPY).step((1, 1), read_pipeline("(first 1 t)")).steps
        before = repr((layout, steps))
        are_alike(BOX, OTHER, layout)
        keeps(BOX, MONITOR, layout)
        needless(COPY, layout)
        trim(BOX, layout)
        answered(layout, "s", 3)
        Book(layout).kept(BOX)
        Chain.of(layout, COPY, steps).back()
        Shell(layout)("names")
        exchange(Live(COPY), (1, 1), read_pipeline("(first 1 t)"), layout)
        self.assertEqual(repr((layout, steps)), before)


if __name__ == "__main__":
    unittest.main()
