"""Which values are states of a pipeline."""

import unittest

from pushalike.errors import InvalidPipeline
from pushalike.run.states import is_state
from pushalike.tree.texts import read_pipeline
from tests.chance import Chance
from tests.samples import MOST, S, junk
from tests.scripts import e, play
from tests.shapes import letters_as_a, shapes

OVER = ("over", (), ())
TEXTS = (
    "s", "(never 3)", "(one z)", "(after 4 z)", "(every 4 z)", "(only b s)", "(pick 0,0 s)", "(fold 0a1b,1a0- s)", "(first 3 s)",
    "(changes s)", "(pairs s)", "(quiet 3 s)", "(spaced 3 s)", "(late 3 2 s)", "(again (first 2 s))", "(+ s t)", "(& s (never 2))",
    "(at s t)", "(until s t)", "(then (first 1 s) t)", "(else 5 s t)", "(switch s it)", "(switch s t)", "(busy s t)",
    "(switch (pairs s) (pick 0 (+ it (never 2))))", "(busy (quiet 3 s) (until t (after 5 z)))",
    "(switch (one y) (+ it (after 2 z)))", "(+ (one y) (one z))", "(+ (first 1 s) (first 1 s))", "(& (first 1 s) (one z))",
    "(at (first 1 s) (first 1 t))", "(until (first 1 s) (first 1 t))", "(then (one y) (one z))", "(then (one y) (after 3 z))",
    "(else 3 (one y) (one z))", "(late 2 1 (one z))", "(late 1 3 (first 1 s))", "(quiet 2 (after 2 z))", "(first 1 (one z))",
    "(changes (until s t))", "(switch (first 1 s) (switch (+ it t) (+ it s)))", "(switch s (switch t (+ it (never 1))))",
    "(again (late 2 2 (one z)))", "(switch s (again (first 1 t)))", "(busy (first 1 s) (then (first 1 t) it))",
)
# Stand for one another in shapes, and for letters, flags and numbers that cannot stand there.
OTHERS = (None, "a", "b", "c", "z", "A", "ab", "", "on", "over", "end", 0, 1, 2, 3, 4, 8, 9, -1, True, False, (), ("a",), ("a", "b"), ("a", "a", "a"),
          ("on",), ("over",), (None,), [], ["a"], ["on"], ("on", None), {}, {"a": 1}, MOST, 10 ** 99)


def plain(value):
    """Whether a shape has nothing but tuples, strings, integers and None."""
    if type(value) is tuple:
        return all(plain(item) for item in value)
    return value is None or type(value) in (str, int)


def changed(shape):
    """The shape with another item at each place in turn, one item less, or one more."""
    for other in OTHERS:
        yield other
    if isinstance(shape, tuple):
        yield list(shape)
        for at in range(len(shape) + 1):
            yield shape[:at] + shape[at + 1:]
            yield shape[:at] + ("on",) + shape[at:]
            yield shape[:at] + (None,) + shape[at:]
            if at < len(shape):
                for item in changed(shape[at]):
                    yield shape[:at] + (item,) + shape[at + 1:]


class States(unittest.TestCase):
    def setUp(self):
        self.boxes = {text: read_pipeline(text) for text in TEXTS}

    def known(self, box):
        return {shape: (many, clocks) for shape, many, clocks in shapes(box.tree)}

    def test_each_shape_with_its_values_and_readings(self):
        for text, box in self.boxes.items():
            for shape, many, clocks in shapes(box.tree):
                values, top = (7,) * many, tuple(d - 1 for d, _ in clocks)
                for readings in ((0,) * len(clocks), top):
                    self.assertIs(is_state(box, (shape, values, readings)), True, (text, shape))
                self.assertIs(is_state(box, (shape, values + (7,), top)), False)
                self.assertIs(is_state(box, (shape, values, top + (0,))), False)
                if many:
                    self.assertIs(is_state(box, (shape, values[1:], top)), False)
                if clocks:
                    self.assertIs(is_state(box, (shape, values, top[1:])), False)

    def test_other_shapes(self):
        for box in self.boxes.values():
            known = self.known(box)
            for shape, (many, clocks) in list(known.items())[:5]:
                for other in changed(shape):
                    self.judged(box, known, other, many, clocks)

    def judged(self, box, known, shape, many, clocks):
        """A shape is one of the known ones, whatever letters are kept."""
        found = known.get(letters_as_a(shape)) if plain(shape) else None
        if found is None:
            self.assertIs(is_state(box, (shape, (7,) * many, (0,) * len(clocks))), False, (box.tree, shape))
        else:
            self.assertIs(is_state(box, (shape, (7,) * found[0], (0,) * len(found[1]))), True, (box.tree, shape))

    def test_shapes_of_other_pipelines(self):
        every = {}
        for box in self.boxes.values():
            every.update(list(self.known(box).items())[:20])
        for box in self.boxes.values():
            known = self.known(box)
            for shape, (many, clocks) in every.items():
                self.judged(box, known, shape, many, clocks)

    def test_pipelines_by_chance(self):
        for seed in range(60):
            box = Chance(seed).pipeline(5)
            known = self.known(box)
            chance = Chance(seed)
            for shape in [chance.one_of(known) for _ in range(3)]:
                for other in changed(shape):
                    self.judged(box, known, other, *known[shape])

    def test_values(self):
        for text, shape, values, clocks in (
            ("(changes s)", (1, "on"), (7,), ()), ("(& s t)", (1, 1, "on", "on"), (7, 8), ()), ("(late 3 2 s)", (("a", "b"), "on"), (7, 8), (2, 1)),
            ("(switch s (+ it t))", ("on", ("z", ("over", "on"))), (7,), ()), ("(quiet 3 s)", ("q", "on"), (7,), (0,)),
        ):
            box = read_pipeline(text)
            self.assertIs(is_state(box, (shape, values, clocks)), True)
            for at in range(len(values)):
                for value in (0, -1, MOST, -MOST):
                    self.assertIs(is_state(box, (shape, values[:at] + (value,) + values[at + 1:], clocks)), True)
                for value in (MOST + 1, -MOST - 1, True, False, None, "7", (7,), [7]):
                    self.assertIs(is_state(box, (shape, values[:at] + (value,) + values[at + 1:], clocks)), False)
            for value in (list(values), {}, None, 7, "7", values[0]):
                self.assertIs(is_state(box, (shape, value, clocks)), False)

    def test_readings(self):
        d = 10 ** 40 - 1
        for text, shape, values, tops in (
            ("(after 4 z)", "on", (), (4,)), ("(every 1 z)", "on", (), (1,)), ("(quiet 3 s)", ("a", "on"), (7,), (3,)),
            ("(spaced 2 s)", (1, "on"), (), (2,)), ("(late 3 1 s)", (("a",), "on"), (7,), (3,)), ("(else 5 s t)", (1, "on"), (), (5,)),
            (f"(after {d} z)", "on", (), (d,)), ("(quiet 3 (spaced 2 s))", ("a", (1, "on")), (7,), (3, 2)),
            ("(switch (quiet 3 s) (until t (after 5 z)))", (("a", "on"), (None, ("on", "on"))), (7,), (3, 5)),
        ):
            box = read_pipeline(text)
            for at, top in enumerate(tops):
                for reading in (0, top - 1, top // 2):
                    self.assertIs(is_state(box, (shape, values, (0,) * at + (reading,) + (0,) * (len(tops) - at - 1))), True)
                for reading in (top, -1, MOST, 10 ** 99, True, False, None, "0", (0,), [0]):
                    self.assertIs(is_state(box, (shape, values, (0,) * at + (reading,) + (0,) * (len(tops) - at - 1))), False)
            for clocks in ([0] * len(tops), None, 0, "0", {0: 0}):
                self.assertIs(is_state(box, (shape, values, clocks)), False)

    def test_readings_of_a_late_never_rise(self):
        box = read_pipeline("(late 3 3 s)")
        shape = (("a", "b", "a"), "on")
        for a in range(-1, 4):
            for b in range(-1, 4):
                for c in range(-1, 4):
                    self.assertIs(is_state(box, (shape, (1, 2, 3), (a, b, c))), 2 >= a >= b >= c >= 0)
        two = read_pipeline("(late 3 2 (late 5 2 s))")
        shape = (("a", "b"), (("a", "b"), "on"))
        self.assertIs(is_state(two, (shape, (1, 2, 3, 4), (1, 0, 4, 3))), True)
        self.assertIs(is_state(two, (shape, (1, 2, 3, 4), (1, 0, 3, 4))), False)
        self.assertIs(is_state(two, (shape, (1, 2, 3, 4), (0, 1, 4, 3))), False)

    def test_over(self):
        for text, over in (
            ("s", False), ("(never 1)", False), ("(every 2 z)", False), ("(again s)", False), ("(one z)", True), ("(after 2 z)", True),
            ("(only a s)", True), ("(+ s t)", True), ("(switch s t)", True), ("(until s t)", True), ("(then s t)", True), ("(quiet 2 s)", True),
        ):
            self.assertIs(is_state(read_pipeline(text), OVER), over, text)
        for value in (("over", (7,), ()), ("over", (), (0,)), ("over",), ("over", ()), ("over", (), (), ()), "over", ["over", (), ()], ("over", [], ())):
            self.assertIs(is_state(read_pipeline("(only a s)"), value), False)

    def test_reached_or_not(self):
        self.assertTrue(is_state(read_pipeline("(fold 0a0a s)"), ((8, "on"), (), ())))
        self.assertFalse(is_state(read_pipeline("(fold 0a0a s)"), ((9, "on"), (), ())))
        self.assertTrue(is_state(read_pipeline("(quiet 3 (only b s))"), (("a", ("on",)), (7,), (0,))))
        self.assertTrue(is_state(read_pipeline("(& (until s t) t)"), ((0, 0, "over", "on"), (), ())))

    def test_a_copy_with_and_without_an_it_of_its_own(self):
        with_it, without = read_pipeline("(switch s (+ it t))"), read_pipeline("(switch s (+ (first 1 t) t))")
        inner = read_pipeline("(switch s (switch t (+ it (never 1))))")
        before = read_pipeline("(switch s (switch (+ it t) t))")
        self.assertTrue(is_state(with_it, (("on", ("a", ("over", "on"))), (7,), ())))
        self.assertFalse(is_state(with_it, (("on", (None, ("over", "on"))), (), ())))
        self.assertFalse(is_state(with_it, (("on", (None, ("over", "on"))), (7,), ())))
        self.assertTrue(is_state(without, (("on", (None, ("over", "on"))), (), ())))
        self.assertFalse(is_state(without, (("on", ("a", ("over", "on"))), (7,), ())))
        self.assertFalse(is_state(without, (("on", ("a", ("over", "on"))), (), ())))
        self.assertTrue(is_state(inner, (("on", (None, ("on", ("a", ("over", "on"))))), (7,), ())))
        self.assertFalse(is_state(inner, (("on", ("a", ("on", ("a", ("over", "on"))))), (7, 7), ())))
        self.assertTrue(is_state(before, (("on", ("a", (("over", "on"), None))), (7,), ())))

    def test_reached_states(self):
        for text in TEXTS:
            for steps in ((), (e("s a", 1), e("t b", 2), 1, e("s b", 3)), (e("s b", 1), 2, e("t a", 2), 7, e("s a", 1), 1)):
                self.assertTrue(is_state(read_pipeline(text), play(text, *steps)[0]))

    def test_values_of_every_kind(self):
        for box in self.boxes.values():
            for value in junk() + ["on", ("on",), ("on", ()), ("on", (), (), ()), ["on", (), ()], OVER[:2]]:
                self.assertIs(is_state(box, value), False)
        for box, known in [(box, self.known(box)) for box in self.boxes.values()]:
            for value in junk():
                for shape in (value, (value, "on"), ("on", value), (0, value), (value,), (None, value), ("on", (None, value))):
                    # Tuples of this kind are no part of a shape, and some are too large to be looked up.
                    if isinstance(value, tuple) and value != ():
                        self.assertIs(is_state(box, (shape, (), ())), False)
                    else:
                        self.judged(box, known, shape, 0, [])
        for text, shape in (("s", "on"), ("(quiet 3 s)", (None, "on")), ("(+ s t)", ("on", "on")), ("(only a s)", "over")):
            for value in junk():
                if value != () or not isinstance(value, tuple):
                    self.assertIs(is_state(read_pipeline(text), (shape, value, ())), False)
                    self.assertIs(is_state(read_pipeline(text), (shape, (), value)), False)
        for value in junk():
            right = type(value) is int and abs(value) <= MOST
            self.assertIs(is_state(read_pipeline("(changes s)"), ((1, "on"), (value,), ())), right)
            self.assertIs(is_state(read_pipeline("(after 4 z)"), ("on", (), (value,))), right and 0 <= value < 4)

    def test_what_is_no_pipeline(self):
        for value in junk() + [S, "s", ("again", S)]:
            if type(value).__name__ != "Pipeline":
                with self.assertRaises(InvalidPipeline):
                    is_state(value, OVER)
                with self.assertRaises(InvalidPipeline):
                    is_state(value, None)
