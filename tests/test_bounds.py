"""Bounds, beside a plain count over all points."""

import random
import unittest
from itertools import product

from pushalike.errors import InvalidBounds, InvalidNumber, InvalidOperation, UnknownIndex
from pushalike.joint.bounds import Bounds
from tests.samples import MOST, junk

# All points of the bounds that are counted here have readings from -LEAST to LEAST.
LEAST = 6


def held(rows):
    """All points that rows hold, counted one by one."""
    found = []
    for point in product(range(-LEAST, LEAST + 1), repeat=len(rows) - 1):
        readings = (0,) + point
        if all(readings[i] - readings[j] <= rows[i][j] for i in range(len(rows)) for j in range(len(rows))):
            found.append(point)
    return found


def greatest(points, clocks):
    """The rows with the greatest differences of these points."""
    rows = [(0,) + point for point in points]
    return tuple(tuple(max(row[i] - row[j] for row in rows) for j in range(clocks + 1)) for i in range(clocks + 1))


def some_rows(clocks, seed):
    """Rows by chance, whose points have readings from -3 to 3."""
    chance = random.Random(seed)
    rows = [[chance.randint(-2, 5) for _ in range(clocks + 1)] for _ in range(clocks + 1)]
    for k in range(clocks + 1):
        rows[k][0], rows[0][k] = min(rows[k][0], 3), min(rows[0][k], 3)
    for k in range(clocks + 1):
        rows[k][k] = chance.choice([0, 0, 0, 1, 5])
    return tuple(tuple(row) for row in rows)


def samples():
    """Bounds for 0 to 3 clocks, each with its points."""
    for clocks, many in ((0, 2), (1, 40), (2, 80), (3, 60)):
        for seed in range(many):
            rows = some_rows(clocks, seed)
            points = held(rows)
            if points:
                yield Bounds(rows), points


class Made(unittest.TestCase):
    def test_tight_rows(self):
        found = 0
        for clocks, many in ((0, 3), (1, 100), (2, 200), (3, 150)):
            for seed in range(many):
                rows = some_rows(clocks, seed)
                points = held(rows)
                if points:
                    found += 1
                    self.assertEqual(Bounds(rows).rows, greatest(points, clocks), rows)
                else:
                    with self.assertRaises(InvalidBounds):
                        Bounds(rows)
        self.assertGreater(found, 100)

    def test_cycles(self):
        for least, right in ((-1, False), (0, True), (1, True)):
            for rows in (((least,),), ((0, 5), (-5 + least, 0)), ((0, 5), (5, least)), ((least, 5), (5, 0)),
                         ((0, 9, 9), (9, 0, -4), (9, 4 + least, 0)), ((0, -3, 9), (9, 0, 1), (2 + least, 9, 0)),
                         ((0, 9, 9, 9), (9, 0, 2, 9), (9, 9, 0, 3), (9, -5 + least, 9, 0))):
                if right:
                    self.assertEqual(len(Bounds(rows)), len(rows) - 1)
                else:
                    with self.assertRaises(InvalidBounds):
                        Bounds(rows)

    def test_the_examples(self):
        one = Bounds.zero(2).risen((4, 9))
        self.assertEqual([one.rows, (3, 3) in one, (3, 2) in one, (one >> 1).least()], [((0, 0, 0), (4, 0, 0), (4, 0, 0)), True, False, (1, 1)])
        self.assertEqual(
            [one.cut(0, 1, -2).moved((2, 0)).rows, one.cut(1, 2, -1), Bounds(((0, 9), (5, 0))).rows, one.within(Bounds.zero(2))],
            [((0, -2, 0), (4, 0, 4), (0, -2, 0)), None, ((0, 9), (5, 0)), False],
        )

    def test_no_clocks(self):
        for rows in (((0,),), ((7,),), ((MOST,),)):
            bounds = Bounds(rows)
            self.assertEqual((bounds.rows, len(bounds), bounds.least(), () in bounds, str(bounds)), (((0,),), 0, (), True, "bounds of 0 clocks"))

    def test_twelve_clocks_and_thirteen(self):
        bounds = Bounds(((3,) * 13,) * 13)
        self.assertEqual((len(bounds), bounds.least(), str(bounds)), (12, (-3,) * 12, "bounds of 12 clocks"))
        self.assertEqual(bounds.rows, tuple(tuple(0 if i == j else 3 for j in range(13)) for i in range(13)))
        with self.assertRaises(InvalidBounds):
            Bounds(((3,) * 14,) * 14)

    def test_long_numbers(self):
        self.assertEqual(Bounds(((0, MOST), (MOST, 0))).rows, ((0, MOST), (MOST, 0)))
        with self.assertRaises(InvalidBounds):
            Bounds(((0, MOST + 1), (MOST, 0)))
        rows = tuple(tuple(MOST for _ in range(4)) for _ in range(4))
        self.assertEqual(Bounds(rows).rows, tuple(tuple(0 if i == j else MOST for j in range(4)) for i in range(4)))
        self.assertEqual(Bounds(((0, -MOST, MOST), (MOST, 0, MOST), (0, MOST, 0))).rows, ((0, -MOST, 0), (MOST, 0, MOST), (0, -MOST, 0)))
        with self.assertRaises(InvalidBounds):
            Bounds(((0, -MOST, MOST), (MOST, 0, MOST), (-1, MOST, 0)))
        # Where one way round is shorter, its bound can be the sum of several long ones.
        with self.assertRaises(InvalidBounds):
            Bounds(((0, -MOST, 0, 0), (0, 0, -MOST, 0), (0, 0, 0, -MOST), (MOST, MOST, MOST, 0)))

    def test_what_is_no_rows(self):
        wrong = [
            (), ((),), ((0, 0),), ((0,), (0,)), ((0, 0), (0,)), ((0, 0), (0, 0, 0)), ((0, 0), (0, 0), (0, 0)), [(0,)], ([0],), [[0]], ((0, 0), [0, 0]),
            0, None, "0", ("0",), (0,), {0: (0,)}, ((True,),), ((False,),), ((0, True), (0, 0)), ((0, 0), (None, 0)), ((0, "1"), (0, 0)),
            ((0, (1,)), (0, 0)), ((0, 10 ** 60), (0, 0)), ((0, -10 ** 60), (0, 0)), ((0, 10 ** 99), (0, 0)), Bounds.zero(1),
        ]
        for value in junk() + wrong + [(value,) for value in junk()] + [((value,),) for value in junk()] + [((0, 0), (0, value)) for value in junk()]:
            right = isinstance(value, tuple) and len(value) in (1, 2) and isinstance(value[-1], tuple) and len(value[-1]) == len(value)
            if not right or type(value[-1][-1]) is not int or not 0 <= value[-1][-1] <= MOST:
                with self.assertRaises(InvalidBounds):
                    Bounds(value)

    def test_zero(self):
        for many in range(13):
            bounds = Bounds.zero(many)
            self.assertIsInstance(bounds, Bounds)
            self.assertEqual((bounds.rows, len(bounds), bounds.least()), (((0,) * (many + 1),) * (many + 1), many, (0,) * many))
        for value in junk() + [13, -1, True, False, None, "1", MOST + 1]:
            if type(value) is not int or not 0 <= value <= 12:
                with self.assertRaises(InvalidNumber) as caught:
                    Bounds.zero(value)
                self.assertIs(caught.exception.value, value)


class Counted(unittest.TestCase):
    def found(self, bounds, points, clocks):
        """The bounds have just these points."""
        if not points:
            self.assertIs(bounds, None)
        else:
            self.assertIsInstance(bounds, Bounds)
            self.assertEqual(bounds.rows, greatest(points, clocks))
            self.assertEqual(len(bounds), clocks)

    def test_points(self):
        for bounds, points in samples():
            known = set(points)
            for point in product(range(-4, 5), repeat=len(bounds)):
                self.assertIs(point in bounds, point in known)
            self.assertEqual(bounds.least(), tuple(min(point[k] for point in points) for k in range(len(bounds))))
            self.assertIn(bounds.least(), bounds)

    def test_values_that_are_no_points(self):
        two = Bounds(((0, 9, 9), (9, 0, 9), (9, 9, 0)))
        for value in junk() + [(0,), (0, 0, 0), [0, 0], (True, 0), (0, False), (None, 0), ("0", 0), ((0,), 0), 0, None, "00", {0: 0}, two]:
            self.assertIs(value in two, False)
            self.assertIs((0, value) in two, type(value) is int and -9 <= value <= 9)
        self.assertIs((10 ** 60,) in Bounds(((0, MOST), (MOST, 0))), False)
        self.assertIs((MOST,) in Bounds(((0, MOST), (MOST, 0))), True)
        for value in junk():
            self.assertIs(value in Bounds.zero(0), isinstance(value, tuple) and value == ())

    def test_both_and_within(self):
        every = {clocks: [sample for sample in samples() if len(sample[0]) == clocks] for clocks in range(4)}
        for clocks, rows in every.items():
            chance = random.Random(clocks)
            for _ in range(150):
                (one, points), (other, others) = chance.choice(rows), chance.choice(rows)
                kept = (one.rows, other.rows)
                both = [point for point in points if point in set(others)]
                self.found(one & other, both, clocks)
                self.assertIs(one.within(other), set(points) <= set(others))
                if both:
                    self.assertTrue((one & other).within(one) and (one & other).within(other))
                self.assertEqual((one.rows, other.rows), kept)
            for one, _ in rows[:10]:
                self.assertTrue(one.within(one))
                self.assertEqual(one & one, one)

    def test_cut(self):
        for bounds, points in samples():
            clocks, kept = len(bounds), bounds.rows
            for i, j, most in product(range(clocks + 1), range(clocks + 1), (-4, -1, 0, 1, 3)):
                cut = [point for point in points if ((0,) + point)[i] - ((0,) + point)[j] <= most]
                self.found(bounds.cut(i, j, most), cut, clocks)
            self.assertEqual(bounds.rows, kept)

    def test_later(self):
        for bounds, points in samples():
            kept = bounds.rows
            for time in (0, 1, 5):
                self.found(bounds >> time, [tuple(x + time for x in point) for point in points], len(bounds))
            self.assertEqual(bounds.rows, kept)

    def test_risen(self):
        for at, (bounds, points) in enumerate(samples()):
            chance, clocks, kept = random.Random(at), len(bounds), bounds.rows
            for _ in range(4):
                tops = tuple(chance.randint(-3, 6) for _ in range(clocks))
                risen = {tuple(x + time for x in point) for point in points for time in range(12)} if clocks else {()}
                self.found(bounds.risen(tops), [point for point in risen if all(x <= top for x, top in zip(point, tops))], clocks)
            self.assertEqual(bounds.rows, kept)
        self.assertEqual(Bounds.zero(0).risen(()), Bounds.zero(0))

    def test_risen_by_one_number_at_a_time(self):
        one = Bounds.zero(2)
        self.assertEqual(one.risen((0, 9)), one)
        self.assertIs(one.risen((9, -1)), None)
        self.assertEqual((one.risen((2, 1))).rows, ((0, 0, 0), (1, 0, 0), (1, 0, 0)))
        self.assertEqual((one >> 3).risen((3, 3)), one >> 3)
        self.assertIs((one >> 3).risen((2, 3)), None)

    def test_moved(self):
        for at, (bounds, points) in enumerate(samples()):
            chance, clocks, kept = random.Random(at), len(bounds), bounds.rows
            for _ in range(4):
                places = list(range(1, clocks + 1)) + [0] * chance.randint(0, 2)
                chance.shuffle(places)
                places = tuple(places[:chance.randint(0, len(places))])
                moved = {tuple(((0,) + point)[place] for place in places) for point in points}
                self.found(bounds.moved(places), sorted(moved), len(places))
            self.assertEqual(bounds.rows, kept)
        self.assertEqual(Bounds.zero(0).moved((0,) * 12), Bounds.zero(12))
        self.assertEqual(Bounds.zero(12).moved(tuple(range(12, 0, -1))), Bounds.zero(12))
        self.assertEqual(Bounds.zero(3).moved(()), Bounds.zero(0))

    def test_equal(self):
        self.assertEqual(Bounds(((0, 3, 9), (2, 0, 9), (9, 1, 0))), Bounds(((5, 3, 9), (2, 0, 9), (3, 1, 0))))
        self.assertFalse(Bounds(((0, 3), (2, 0))) != Bounds(((1, 3), (2, 4))))
        self.assertNotEqual(Bounds(((0, 3), (2, 0))), Bounds(((0, 3), (3, 0))))
        self.assertNotEqual(Bounds.zero(1), Bounds.zero(2))
        for bounds in (Bounds.zero(0), Bounds.zero(2)):
            for value in junk() + [bounds.rows, 0, (), None]:
                if not isinstance(value, Bounds):
                    self.assertFalse(bounds == value)
                    self.assertTrue(bounds != value)

    def test_text(self):
        self.assertEqual(str(Bounds.zero(3)), "bounds of 3 clocks")
        self.assertEqual(str(Bounds.zero(1)), "bounds of 1 clocks")


class Errors(unittest.TestCase):
    def setUp(self):
        self.two = Bounds(((0, 1, 2), (4, 0, 5), (6, 6, 0)))

    def test_other_bounds(self):
        for value in junk() + [Bounds.zero(0), Bounds.zero(1), Bounds.zero(3), self.two.rows, None]:
            if not isinstance(value, Bounds) or len(value) != 2:
                with self.assertRaises(InvalidOperation):
                    self.two & value
                with self.assertRaises(InvalidOperation):
                    self.two.within(value)

    def test_cut(self):
        for value in junk() + [3, -1, True, False, None, "0", MOST + 1]:
            if type(value) is not int or not 0 <= value <= 2:
                for arguments in ((value, 0, 0), (value, value, None), (value, None, None)):
                    with self.assertRaises(UnknownIndex) as caught:
                        self.two.cut(*arguments)
                    self.assertIs(caught.exception.index, value)
                for arguments in ((0, value, 0), (2, value, None)):
                    with self.assertRaises(UnknownIndex) as caught:
                        self.two.cut(*arguments)
                    self.assertIs(caught.exception.index, value)
            if type(value) is not int or abs(value) > MOST:
                with self.assertRaises(InvalidNumber) as caught:
                    self.two.cut(0, 1, value)
                self.assertIs(caught.exception.value, value)
        self.assertEqual(self.two.cut(1, 1, 0), self.two)
        self.assertIs(self.two.cut(1, 1, -1), None)
        self.assertEqual(self.two.cut(1, 2, MOST), self.two)
        self.assertIs(self.two.cut(1, 2, -MOST), None)
        with self.assertRaises(UnknownIndex):
            Bounds.zero(0).cut(1, 0, 0)

    def test_later(self):
        for value in junk() + [-1, True, None, "1", MOST + 1]:
            if type(value) is not int or not 0 <= value <= MOST:
                with self.assertRaises(InvalidNumber) as caught:
                    self.two >> value
                self.assertIs(caught.exception.value, value)
        self.assertEqual((self.two >> MOST - 6).rows[2][0], MOST)
        for time in (MOST - 5, MOST):
            with self.assertRaises(InvalidNumber) as caught:
                self.two >> time
            self.assertEqual(caught.exception.value, time)
        low = Bounds(((0, MOST), (-MOST, 0)))
        self.assertEqual((low >> MOST).rows, ((0, 0), (0, 0)))
        self.assertEqual(Bounds.zero(0) >> MOST, Bounds.zero(0))
        self.assertEqual((Bounds.zero(1) >> MOST).rows, ((0, -MOST), (MOST, 0)))

    def test_tops(self):
        for value in junk() + [(1,), (1, 1, 1), [1, 1], (1, True), (None, 1), (1, MOST + 1), ("1", 1), 1, None, {0: 1, 1: 1}, self.two]:
            with self.assertRaises(InvalidBounds):
                self.two.risen(value)
            if type(value) is not int or abs(value) > MOST:
                with self.assertRaises(InvalidBounds):
                    self.two.risen((1, value))
        with self.assertRaises(InvalidBounds):
            Bounds.zero(0).risen((1,))

    def test_places(self):
        for value in junk() + [(3,), (-1,), (1, 1), (2, 1, 2), [1], (True,), (0, False), (None,), ("1",), ((1,),), (0,) * 13, 1, None, "1", {1: 1}, self.two,
                               (1, 2) + (0,) * 11]:
            if value != () or not isinstance(value, tuple):
                with self.assertRaises(InvalidBounds):
                    self.two.moved(value)
        self.assertEqual(len(self.two.moved((1, 2) + (0,) * 10)), 12)
        with self.assertRaises(InvalidBounds):
            Bounds.zero(0).moved((1,))

    def test_what_cannot_be_done(self):
        with self.assertRaises(TypeError):
            iter(self.two)
        with self.assertRaises(AttributeError):
            self.two.rows = ()
