"""Wishes, beside a plain walk over the lists that a pipeline tells, and books of monitors."""

import unittest

from pushalike.base.tapes import Tape
from pushalike.errors import InvalidLayout, InvalidNumber, InvalidOperation, InvalidPipeline, TooMany, UnknownName
from pushalike.joint.monitors import Monitor, keeps, observe
from pushalike.tree.pipelines import Pipeline
from pushalike.tree.texts import read_pipeline, read_tree
from pushalike.use.wishes import Book, answered, apart, at_most, lively, no_letter, single
from tests.chance import LAYOUT, Chance
from tests.oracle import Beside
from tests.samples import junk

SMALL = {"s": ("a",)}
LONG = 10 ** 40 - 1
FAR = 10 ** 9


def lists_of(pipeline, tape):
    """The stamps of all causes on the tape, and the outputs of the pipeline at them, but no moments at which nothing is told."""
    return [(stamp, [item for item in told if item != "end"]) for stamp, told, _ in Beside(pipeline.tree, ("never", 0)).run(tape)]


def first_with(causes, is_broken):
    """The first stamp at which an output is broken; `is_broken` is passed the times of those before it, its own time, and its letter."""
    before = []
    for stamp, outputs in causes:
        for letter, _ in outputs:
            if is_broken(before, stamp[0], letter):
                return stamp
            before.append(stamp[0])
    return None


def no_letter_broken(letters, causes, tape):
    return first_with(causes, lambda before, time, letter: letter in letters)


def at_most_broken(n, d, causes, tape):
    return first_with(causes, lambda before, time, letter: sum(1 for other in before if time - other < d) >= n)


def single_broken(causes, tape):
    return next((stamp for stamp, outputs in causes if len(outputs) > 1), None)


def lively_broken(d, causes, tape):
    latest = 0
    for stamp, outputs in causes:
        if latest + d <= tape.last and stamp >= (latest + d, 0):
            return latest + d, 0
        if outputs:
            latest = stamp[0]
    return (latest + d, 0) if latest + d <= tape.last else None


def answered_broken(source, d, causes, tape):
    told = [stamp for stamp, outputs in causes if outputs]
    broken = []
    for stamp, event in zip(tape.stamps(), tape.events):
        end = (stamp[0] + d, 0)
        if event[1] == source and end[0] <= tape.last and not any(stamp <= other <= end for other in told):
            broken.append(end)
    return min(broken, default=None)


class Wishes(unittest.TestCase):
    def walk(self, pipeline, monitor, tape, broken):
        """The monitor tells its first output at this stamp."""
        self.assertIsInstance(monitor, Monitor)
        told = [stamp for stamp, told in observe(pipeline, monitor, tape) if told != ("end",)]
        self.assertEqual(told[:1], [] if broken is None else [broken], (pipeline.tree, monitor.tree, tape.events, tape.last))

    def all_wishes(self, chance, width, causes, tape):
        """Each wish with numbers by chance, and where it is broken."""
        d, n, source = chance.random.randint(1, 6), chance.random.randint(1, 3), chance.one_of("st")
        letters = tuple(sorted(chance.random.sample("abcz", chance.random.randint(1, 2))))
        yield no_letter(letters, width=width), no_letter_broken(letters, causes, tape)
        yield apart(d, width=width), at_most_broken(1, d, causes, tape)
        yield at_most(n, d, width=width), at_most_broken(n, d, causes, tape)
        yield single(width=width), single_broken(causes, tape)
        yield lively(d, width=width), lively_broken(d, causes, tape)
        yield answered(LAYOUT, source, d, width=width), answered_broken(source, d, causes, tape)

    def dense_tape(self, chance):
        """A tape with several events at many times."""
        time, events = 0, []
        for _ in range(chance.random.randint(0, 14)):
            time += chance.one_of([0, 0, 0, 1, 1, 2, 3, 4, 6])
            events.append((time,) + chance.event())
        return Tape(tuple(events), last=time + chance.random.randint(0, 8))

    def test_by_chance(self):
        widths, broken = {}, [0, 0]
        for seed in range(900):
            chance = Chance(seed)
            pipeline = chance.pipeline(5)
            tape = self.dense_tape(chance)
            causes = lists_of(pipeline, tape)
            for monitor, stamp in self.all_wishes(chance, pipeline.width, causes, tape):
                self.walk(pipeline, monitor, tape, stamp)
                broken[stamp is None] += 1
            widths[pipeline.width] = True
        self.assertEqual(sorted(widths), [0, 1, 2, 3, 4])
        self.assertGreater(min(broken), 1000)

    def test_pipelines_that_tell_often(self):
        texts = ("s", "(+ s t)", "(+ s s)", "(+ (late 2 2 s) t)", "(+ (late 3 3 s) (quiet 3 t))", "(spaced 3 (+ s t))", "(pairs (+ s t))", "(+ (one z) (every 3 z))",
                 "(+ (+ (one x) (one y)) (every 2 z))", "(switch s (+ it (late 1 1 it)))", "(& s t)", "(& (& s s) (& t t))", "(pick 0,0,0 (late 4 2 s))", "(first 3 (+ s t))",
                 "(+ (pick - s) (every 4 z))", "(else 3 s (late 3 2 t))")
        for text in texts:
            pipeline = read_pipeline(text)
            for seed in range(40):
                chance = Chance(seed)
                tape = self.dense_tape(chance)
                causes = lists_of(pipeline, tape)
                for monitor, stamp in self.all_wishes(chance, pipeline.width, causes, tape):
                    self.walk(pipeline, monitor, tape, stamp)

    def test_at_just_before_and_just_behind_a_time(self):
        one, late = read_pipeline("s"), read_pipeline("(late 4 1 s)")
        for d in (1, 2, 5):
            for gap in (0, 1, d - 1, d, d + 1, 2 * d):
                tape = Tape(((3, "s", "a", 1), (3 + gap, "s", "a", 2)), last=40)
                second = tape.stamps()[1]
                self.walk(one, apart(d), tape, second if gap < d else None)
                self.walk(one, at_most(1, d), tape, second if gap < d else None)
                self.walk(one, at_most(2, d), tape, None)
                self.walk(one, lively(d), tape, (d, 0) if d <= 3 else (3 + d, 0) if gap >= d else (3 + gap + d, 0))
                if gap >= 4:
                    self.walk(late, apart(d), tape, (7 + gap, 0) if gap < d else None)
                self.walk(late, answered(SMALL, "s", d), tape, (3 + d, 0) if d < 4 else None if gap >= 4 or gap == 0 else None)

    def test_outputs_at_the_very_moment(self):
        tape = Tape(((0, "s", "a", 1), (5, "t", "b", 2)), last=30)
        quiet = read_pipeline("(+ s (late 5 1 s))")
        # The second output is told at the moment at which the clocks of these wishes are due.
        self.walk(quiet, apart(5), tape, None)
        self.walk(quiet, apart(6), tape, (5, 0))
        self.walk(quiet, lively(5), tape, (5, 0))
        self.walk(quiet, lively(6), tape, (11, 0))
        late = read_pipeline("(late 5 1 s)")
        self.walk(late, answered(SMALL, "s", 5), tape, None)
        self.walk(late, answered(SMALL, "s", 4), tape, (4, 0))
        # An event of the same time comes behind the moment.
        other = read_pipeline("(until t s)")
        self.walk(read_pipeline("t"), answered({"s": ("a",), "t": ("b",)}, "s", 5), tape, (5, 0))
        self.walk(read_pipeline("t"), answered({"s": ("a",), "t": ("b",)}, "s", 6), tape, None)
        self.walk(other, answered({"s": ("a",), "t": ("b",)}, "s", 6), tape, (6, 0))
        self.walk(read_pipeline("(+ s t)"), apart(5), tape, None)

    def test_events_that_are_answered_at_once_or_not(self):
        both = {"s": ("a", "b"), "t": ("a",)}
        tape = Tape(((1, "s", "a", 1), (2, "s", "b", 1), (2, "t", "a", 1), (3, "s", "b", 1), (7, "s", "a", 1)), last=30)
        for text, d, broken in (("(only a s)", 6, None), ("(only a s)", 5, (7, 0)), ("(only a s)", 3, (5, 0)), ("s", 1, None), ("(never 1)", 4, (5, 0)), ("(never 1)", 29, (30, 0)), ("(never 1)", 30, None),
                                ("t", 3, (6, 0)), ("t", 1, (2, 0)), ("(first 1 s)", 5, (7, 0)), ("(first 1 s)", 28, (30, 0)), ("(first 1 s)", 29, None)):
            self.walk(read_pipeline(text), answered(both, "s", d), tape, broken)

    def test_begin_lists(self):
        begin = (0, -1)
        for text, wish, broken in (
            ("(one z)", no_letter(("z",), width=0), begin), ("(one z)", no_letter(("y",), width=0), None), ("(+ (one z) (one y))", no_letter(("y",), width=0), begin),
            ("(+ (one z) (one y))", single(width=0), begin), ("(one z)", single(width=0), None), ("(+ (one z) (one y))", apart(1, width=0), begin),
            ("(+ (one z) (one y))", at_most(2, 1, width=0), None), ("(+ (one z) (+ (one y) (one x)))", at_most(2, 1, width=0), begin),
            ("(+ (one z) (after 3 y))", apart(3, width=0), None), ("(+ (one z) (after 3 y))", apart(4, width=0), (3, 0)), ("(one z)", lively(4, width=0), (4, 0)),
            ("(never 0)", lively(4, width=0), (4, 0)), ("(one z)", apart(4, width=0), None), ("(one z)", answered(SMALL, "s", 2, width=0), (5, 0)),
        ):
            self.walk(read_pipeline(text), wish, Tape(((3, "s", "a", 1),), last=9), broken)

    def test_several_outputs_in_one_list(self):
        tape = Tape(((1, "s", "a", 1), (4, "s", "a", 1)), last=9)
        three = read_pipeline("(+ s (+ s s))")
        for wish, broken in ((apart(1), (1, 1)), (at_most(2, 1), (1, 1)), (at_most(3, 1), None), (at_most(3, 3), None), (at_most(3, 4), (4, 1)), (single(), (1, 1))):
            self.walk(three, wish, tape, broken)
        two = read_pipeline("(+ s s)")
        for wish, broken in ((at_most(2, 3), None), (at_most(2, 4), (4, 1)), (at_most(3, 4), (4, 1)), (at_most(3, 3), None), (single(), (1, 1))):
            self.walk(two, wish, tape, broken)
        self.walk(read_pipeline("s"), single(), Tape(((1, "s", "a", 1),) * 3), None)
        self.walk(read_pipeline("(late 2 3 s)"), single(), Tape(((1, "s", "a", 1),) * 2, last=9), (3, 0))
        self.walk(read_pipeline("(+ (pick - (late 2 1 s)) (every 3 z))"), single(width=0),
                  Tape(((1, "s", "a", 1),), last=9), (3, 0))

    def test_great_delays(self):
        tape = Tape(((7, "s", "a", 1), (7 + LONG, "s", "a", 1)), last=10 * LONG)
        near = Tape(((7, "s", "a", 1), (6 + LONG, "s", "a", 1)), last=10 * LONG)
        one = read_pipeline("s")
        for wish, other in ((apart(LONG), (6 + LONG, 1)), (at_most(1, LONG), (6 + LONG, 1)), (at_most(2, LONG), None)):
            self.walk(one, wish, tape, None)
            self.walk(one, wish, near, other)
        self.walk(one, lively(LONG), tape, (7 + LONG, 0))
        self.walk(one, lively(LONG), near, (6 + 2 * LONG, 0))
        self.walk(read_pipeline("(until s s)"), answered(SMALL, "s", LONG), tape, (7 + 2 * LONG, 0))
        self.walk(read_pipeline(f"(late {LONG} 2 s)"), answered(SMALL, "s", LONG), tape, None)
        self.walk(read_pipeline(f"(late {LONG} 2 s)"), answered(SMALL, "s", LONG - 1), tape, (6 + LONG, 0))

    def test_all_letters(self):
        letters = tuple("abcdefghijklmnopqrstuvwxyz")
        one, tape = read_pipeline("s"), Tape(tuple((2 * at, "s", letter, at) for at, letter in enumerate(letters)), last=60)
        self.walk(one, no_letter(letters), tape, (0, 1))
        for at, letter in enumerate(letters):
            self.walk(one, no_letter((letter,)), tape, (2 * at, 1))
        self.walk(one, apart(2), tape, None)
        self.walk(one, apart(3), tape, (2, 1))
        self.walk(one, single(), tape, None)
        self.walk(one, lively(3), tape, (53, 0))
        same = Tape(tuple((0, "s", letter, 0) for letter in letters) + tuple((9, "s", letter, 0) for letter in letters), last=9)
        self.walk(one, single(), same, None)
        self.walk(one, at_most(3, 9), same, (0, 4))
        for letter in letters:
            twice = read_pipeline("(+ (only {0} s) (only {0} s))".format(letter))
            self.walk(twice, single(), tape, (2 * letters.index(letter), 1))
            self.walk(twice, at_most(1, 5), tape, (2 * letters.index(letter), 1))
            self.walk(twice, at_most(2, 5), tape, None)

    def test_pipelines_that_are_over(self):
        tape = Tape(((1, "s", "a", 1), (9, "s", "a", 1)), last=20)
        one = read_pipeline("(first 1 s)")
        for wish, broken in ((lively(4), (5, 0)), (lively(1), (1, 0)), (lively(2), (3, 0)), (apart(20), None), (answered(SMALL, "s", 5), (14, 0)), (single(), None)):
            self.walk(one, wish, tape, broken)

    def test_widths(self):
        for width in range(5):
            for wish in (no_letter(("a",), width=width), apart(3, width=width), at_most(2, 3, width=width), single(width=width), lively(3, width=width),
                         answered(SMALL, "s", 3, width=width)):
                self.assertEqual(wish.told, width)
                self.assertLessEqual(len(wish), 12)
        for wish in (no_letter(("a",)), apart(3), at_most(2, 3), single(), lively(3), answered(SMALL, "s", 3)):
            self.assertEqual(wish.told, 1)

    def test_kept(self):
        for text, wish, kept in (
            ("(quiet 3 s)", apart(3), True), ("(quiet 3 s)", apart(4), False), ("(spaced 3 s)", apart(3), True), ("(spaced 3 s)", apart(4), False),
            ("(late 3 2 s)", at_most(2, 3), True), ("(late 3 2 s)", at_most(2, 4), False), ("(spaced 1 s)", at_most(3, 3), True), ("(spaced 1 s)", at_most(2, 3), False),
            ("(only a s)", no_letter(("b", "c")), True), ("(only a s)", no_letter(("a", "b")), False), ("s", single(), True), ("(+ s s)", single(), False),
            ("(late 2 2 s)", single(), False), ("(quiet 2 s)", single(), True), ("(+ s (pick 0 (& t (every 3 z))))", lively(9), False),
            ("(late 3 1 s)", answered({"s": ("a", "b")}, "s", 3), True), ("(late 3 1 s)", answered({"s": ("a", "b")}, "s", 2), False),
            ("s", answered({"s": ("a", "b")}, "s", 1), True), ("(first 9 s)", answered({"s": ("a", "b")}, "s", 3), False), ("(else 9 s t)", answered({"s": ("a", "b")}, "s", 1), False),
        ):
            self.assertIs(keeps(read_pipeline(text), wish, {"s": ("a", "b"), "t": ("a",)}), kept, (text, wish.tree))
        self.assertTrue(keeps(read_pipeline("(every 3 z)"), lively(4, width=0), SMALL))
        self.assertFalse(keeps(read_pipeline("(every 3 z)"), lively(3, width=0), SMALL))


class Errors(unittest.TestCase):
    WRONG_DELAYS = (0, -1, LONG + 1, 10 ** 60, 10 ** 99, True, False, None, "3", (3,), [3], {}, Pipeline.source("s"))
    WRONG_WIDTHS = (-1, 5, 10 ** 61, True, False, None, "1", (1,), [], {}, Pipeline.source("s"))

    def number(self, call, value):
        with self.assertRaises(InvalidNumber) as caught:
            call()
        self.assertIs(caught.exception.value, value)

    def test_delays(self):
        for d in self.WRONG_DELAYS:
            for width in (1, 9):
                self.assertRaises(InvalidPipeline, apart, d, width=width)
                self.assertRaises(InvalidPipeline, at_most, 1, d, width=width)
                self.assertRaises(InvalidPipeline, lively, d, width=width)
                self.assertRaises(InvalidPipeline, answered, SMALL, "s", d, width=width)
        for d in (1, 2, LONG):
            for wish in (apart(d), at_most(1, d), lively(d), answered(SMALL, "s", d)):
                self.assertIsInstance(wish, Monitor)

    def test_widths(self):
        for width in self.WRONG_WIDTHS:
            for call in (lambda: no_letter(("a",), width=width), lambda: apart(3, width=width), lambda: at_most(1, 3, width=width), lambda: single(width=width),
                         lambda: lively(3, width=width), lambda: answered(SMALL, "s", 3, width=width)):
                self.number(call, width)

    def test_other_arguments(self):
        for value in junk():
            for width in (1, -1):
                self.assertRaises(InvalidPipeline, no_letter, value, width=width) if value != ("a", "b", "c", "d", "e") else None
                if not (isinstance(value, int) and not isinstance(value, bool) and 1 <= value <= 3):
                    self.assertRaises(InvalidPipeline, at_most, value, 3, width=width)
                    self.assertRaises(InvalidPipeline, at_most, value, 0, width=width)
                self.assertRaises(InvalidLayout, answered, value, "s", 3, width=width)
                self.assertRaises(InvalidLayout, answered, value, None, 0, width=width)
                with self.assertRaises(UnknownName) as caught:
                    answered(SMALL, value, 0, width=width)
                self.assertIs(caught.exception.name, value)
        for letters in ((), ("b", "a"), ("a", "a"), ("ab",), ["a"], "a", ("a", None), ("A",)):
            self.assertRaises(InvalidPipeline, no_letter, letters)
        for n in (0, 4, -1, True, "1", None):
            self.assertRaises(InvalidPipeline, at_most, n, 3)
        for n in (1, 2, 3):
            self.assertEqual(at_most(n, 3).told, 1)
        for source in ("t", "", "S", "it", "ss"):
            self.assertRaises(UnknownName, answered, SMALL, source, 3)

    def test_a_layout_that_is_changed(self):
        layout = {"s": ("a",)}
        monitor = answered(layout, "s", 3)
        layout["s"] = ("b",)
        self.assertTrue(monitor == answered(SMALL, "s", 3))


class Books(unittest.TestCase):
    def test_the_example(self):
        book = Book({"s": ("a",)})
        book["calm"], book["few"], book["quick"] = apart(3), at_most(2, 4), answered({"s": ("a",)}, "s", 3)
        self.assertEqual([book.kept(read_pipeline(text)) for text in ("(quiet 3 s)", "(spaced 3 s)", "(late 3 1 s)", "s")],
                         [("calm", "few"), ("calm", "few"), ("calm", "few", "quick"), ("quick",)])

    def test_names(self):
        book = Book(SMALL)
        self.assertEqual([len(book), book.names(), "calm" in book], [0, (), False])
        self.assertIsNone(book.put("calm", apart(3)))
        book["few"] = apart(4)
        book["a"] = single()
        self.assertEqual([len(book), book.names(), "calm" in book, "few" in book, "cal" in book], [3, ("a", "calm", "few"), True, True, False])
        self.assertTrue(book["calm"] == apart(3))
        book["calm"] = apart(7)
        self.assertTrue(book["calm"] == apart(7))
        self.assertEqual([len(book), book.names()], [3, ("a", "calm", "few")])
        self.assertIs(book["calm"], book["calm"])
        with self.assertRaises(TypeError):
            list(book)
        with self.assertRaises(TypeError):
            iter(book)

    def test_errors_of_names(self):
        book = Book(SMALL)
        book["calm"] = apart(3)
        for value in junk():
            self.assertIs(value in book, False)
            with self.assertRaises(UnknownName) as caught:
                book[value]
            self.assertIs(caught.exception.name, value)
            self.assertRaises(InvalidOperation, book.put, value, apart(3))
            with self.assertRaises(InvalidOperation):
                book[value] = apart(4)
            if not isinstance(value, Monitor):
                self.assertRaises(InvalidOperation, book.put, "calm", value)
                with self.assertRaises(InvalidOperation):
                    book["calm"] = value
        for name in ("few", "cal", "Calm", "calm ", "until", "abcdefghi"):
            self.assertFalse(name in book)
            with self.assertRaises(UnknownName):
                book[name]
        for name in ("until", "abcdefghi", "Calm", "it"):
            self.assertRaises(InvalidOperation, book.put, name, apart(3))
        self.assertEqual([book.names(), book["calm"] == apart(3)], [("calm",), True])

    def test_kept(self):
        book = Book({"s": ("a", "b"), "t": ("a",)})
        book["calm"], book["noa"], book["nob"] = apart(2), no_letter(("a",)), no_letter(("b",))
        self.assertEqual(book.kept(read_pipeline("(only a (spaced 2 s))")), ("calm", "nob"))
        self.assertEqual(book.kept(read_pipeline("(never 1)")), ("calm", "noa", "nob"))
        self.assertEqual(book.kept(read_pipeline("s")), ())
        self.assertEqual(Book(SMALL).kept(read_pipeline("(pairs (+ s t))")), ())

    def test_kept_is_keeps(self):
        for seed in range(60):
            chance = Chance(seed)
            pipeline = chance.pipeline(4)
            book = Book(LAYOUT)
            wanted, width = [], pipeline.width
            for name, wish in (("a", apart(2, width=width)), ("b", at_most(2, 3, width=width)), ("c", single(width=width)), ("d", lively(3, width=width)),
                               ("e", answered(LAYOUT, "s", 2, width=width)), ("f", no_letter(("a",), width=width)), ("g", chance.monitor(width, 4))):
                book[name] = wish
                try:
                    wanted += [name] if keeps(pipeline, wish, LAYOUT, limit=200) else []
                except TooMany:
                    wanted = None
                    break
            if wanted is None:
                self.assertRaises(TooMany, book.kept, pipeline, limit=200)
            else:
                self.assertEqual(book.kept(pipeline, limit=200), tuple(wanted))

    def test_errors_of_kept(self):
        book = Book(SMALL)
        one = read_pipeline("(first 9 s)")
        for value in junk():
            if not isinstance(value, Pipeline):
                self.assertRaises(InvalidPipeline, book.kept, value)
                self.assertRaises(InvalidPipeline, book.kept, value, limit=0)
            if not isinstance(value, int) or isinstance(value, bool) or not 1 <= value <= 900:
                with self.assertRaises(InvalidNumber) as caught:
                    book.kept(one, limit=value)
                self.assertIs(caught.exception.value, value)
        book["b"] = no_letter(("b",))
        self.assertEqual(book.kept(one), ("b",))
        self.assertRaises(TooMany, book.kept, one, limit=3)
        # The names are asked in ascending order, and the first error is raised.
        book["a"] = no_letter(("b",), width=2)
        self.assertRaises(InvalidOperation, book.kept, one, limit=3)
        book["a"], book["c"] = no_letter(("a",)), no_letter(("b",), width=2)
        self.assertRaises(TooMany, book.kept, one, limit=3)
        self.assertRaises(InvalidOperation, book.kept, one)
        self.assertRaises(InvalidNumber, book.kept, one, limit=0)
        book["c"] = Monitor.of(read_tree("(+ t (told 1))"))
        self.assertRaises(InvalidOperation, book.kept, one)
        self.assertEqual(Book(SMALL).kept(read_pipeline("t")), ())

    def test_layouts(self):
        for value in junk():
            self.assertRaises(InvalidLayout, Book, value)
        layout = {"s": ("a",)}
        book = Book(layout)
        layout["s"] = ("a", "b")
        book["b"] = no_letter(("b",))
        self.assertEqual(book.kept(read_pipeline("s")), ("b",))


if __name__ == "__main__":
    unittest.main()
