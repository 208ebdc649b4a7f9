import copy
import unittest

from pushalike.errors import InvalidOperation, InvalidPipeline
from pushalike.tree.pipelines import Pipeline, is_tree
from tests.samples import IT, MOST, S, T, junk, nested, shared

A = ("one", "a")
TABLE = (((0, "a"), (1, "b")), ((1, "a"), (0, "")))
DELAY_END = 10 ** 40


def box(tree):
    return Pipeline.of(tree)


class Static(unittest.TestCase):
    def test_trees(self):
        for made, tree in (
            (Pipeline.source("s"), S), (Pipeline.never(), ("never", 1)), (Pipeline.never(0), ("never", 0)),
            (Pipeline.never(4), ("never", 4)), (Pipeline.one("a"), A), (Pipeline.after(5, "z"), ("after", 5, "z")),
            (Pipeline.every(1, "z"), ("every", 1, "z")), (Pipeline.after(DELAY_END - 1, "a"), ("after", DELAY_END - 1, "a")),
        ):
            self.assertIsInstance(made, Pipeline)
            self.assertEqual(made.tree, tree)

    def test_errors(self):
        for call, values in (
            (Pipeline.source, ("", "S", "it", "source", "abcdefghi", 1, None, True, ("s",), ["s"])),
            (Pipeline.never, (-1, 5, True, False, None, "1", (1,), MOST + 1)),
            (Pipeline.one, ("", "A", "ab", 1, None, ("a",))),
            (lambda d: Pipeline.after(d, "a"), (0, -1, DELAY_END, True, None, "1")),
            (lambda letter: Pipeline.after(1, letter), ("", "ab", None, 1)),
            (lambda d: Pipeline.every(d, "a"), (0, -1, DELAY_END, True, None, "1")),
            (lambda letter: Pipeline.every(1, letter), ("", "ab", None, 1)),
        ):
            for value in values:
                with self.assertRaises(InvalidPipeline):
                    call(value)
        for value in junk():
            with self.assertRaises(InvalidPipeline):
                Pipeline.source(value)
            with self.assertRaises(InvalidPipeline):
                Pipeline.one(value)
            with self.assertRaises(InvalidPipeline):
                Pipeline.after(value, value)


class Methods(unittest.TestCase):
    def test_trees(self):
        p, q = box(S), box(T)
        for made, tree in (
            (p + q, ("+", S, T)), (p & q, ("&", S, T)), (p | q, ("then", S, T)), (p >> q, ("switch", S, T)),
            (p.busy(q), ("busy", S, T)), (p.at(q), ("at", S, T)), (p.until(q), ("until", S, T)), (p.or_else(3, q), ("else", 3, S, T)),
            (p.only(("a", "c")), ("only", ("a", "c"), S)), (p.pick(0), ("pick", (0,), S)), (p.pick(), ("pick", (), S)),
            (p.pick(0, 0), ("pick", (0, 0), S)), (p.fold(TABLE), ("fold", TABLE, S)), (p.first(), ("first", 1, S)),
            (p.first(9), ("first", 9, S)), (p.changes(), ("changes", S)), (p.pairs(), ("pairs", S)), (p.quiet(3), ("quiet", 3, S)),
            (p.spaced(3), ("spaced", 3, S)), (p.late(3), ("late", 3, 1, S)), (p.late(3, room=2), ("late", 3, 2, S)),
            (p.again(), ("again", S)),
        ):
            self.assertIsInstance(made, Pipeline)
            self.assertEqual(made.tree, tree)
            self.assertEqual((p.tree, q.tree), (S, T))

    def test_the_left_part_comes_first(self):
        p, q = box(("&", S, T)), box(("until", ("never", 2), S))
        self.assertEqual((p + q).tree, ("+", p.tree, q.tree))
        self.assertEqual((q + p).tree, ("+", q.tree, p.tree))
        self.assertEqual((p | q | q).tree, ("then", ("then", p.tree, q.tree), q.tree))

    def test_patterns_are_pipelines_or_trees(self):
        p = box(S)
        for made in (lambda r: p >> r, p.busy):
            for tree in (T, IT, ("+", IT, S), ("switch", IT, ("+", IT, IT)), ("until", IT, ("after", 5, "z"))):
                self.assertEqual(made(tree).tree[1:], (S, tree))
            self.assertEqual(made(box(("switch", S, IT))).tree[1:], (S, ("switch", S, IT)))

    def test_operands_that_are_no_pipelines(self):
        p = box(S)
        for call in (lambda q: p + q, lambda q: p & q, lambda q: p | q, p.at, p.until, lambda q: p.or_else(3, q)):
            for value in junk()[:-6] + [S, IT, list(S), (p,), shared(19), nested("dict", 20)]:
                if not isinstance(value, Pipeline):
                    with self.assertRaises(InvalidOperation):
                        call(value)

    def test_patterns_that_are_neither(self):
        p = box(S)
        for call in (lambda r: p >> r, p.busy):
            for value in junk() + [list(S), [IT], (S,), ("it", "it"), ("again",), ("first", 0, IT), ("told", 5), (box(S),)]:
                if not isinstance(value, Pipeline):
                    with self.assertRaises(InvalidOperation):
                        call(value)
            with self.assertRaises(InvalidOperation):
                call(("+", box(T), S))

    def test_patterns_without_a_pipeline(self):
        p = box(S)
        long = S
        for _ in range(10):
            long = ("only", ("a",), long)
        for call in (lambda r: p >> r, p.busy):
            self.assertEqual(len(call(long[2])), 12)
            for tree in (("told", 1), ("again", IT), ("again", A), ("+", IT, A), ("pick", (1,), IT), ("pairs", ("pairs", ("pairs", IT))),
                         ("late", 1, 3, ("late", 1, 3, IT)), long):
                self.assertTrue(is_tree(tree))
                with self.assertRaises(InvalidPipeline):
                    call(tree)

    def test_pipelines_that_do_not_exist(self):
        p, none, four = box(S), box(A), box(("never", 4))
        six = box(("late", 1, 3, S)).until(box(("late", 1, 2, S)))
        row = p
        for _ in range(11):
            row = row.only(("a",))
        for call in (
            lambda: p + none, lambda: none + p, lambda: p | none, lambda: p.or_else(3, none), lambda: p & four, lambda: none.again(),
            lambda: none.changes(), lambda: four.pairs(), lambda: p.pick(1), lambda: p.pick(0, 1), lambda: none.pick(0),
            lambda: six.quiet(3), lambda: six.spaced(3), lambda: six.late(3), lambda: six.or_else(3, p), lambda: six + six,
            lambda: row.again(), lambda: row + p, lambda: p.until(row), lambda: row.first(), lambda: p >> row, lambda: p.at(row),
        ):
            with self.assertRaises(InvalidPipeline):
                call()

    def test_arguments_that_no_tree_has(self):
        p = box(S)
        for call, values in (
            (lambda d: p.or_else(d, p), (0, -1, DELAY_END, True, None, "1", (1,))),
            (p.only, ((), ("b", "a"), ("a", "a"), ["a"], "a", "ab", ("A",), None, 1, {"a": 1})),
            (p.pick, (-1, 4, True, False, None, "0", (0,), (), [0])),
            (p.fold, ((), [TABLE[0]], TABLE[0], dict(TABLE), TABLE + TABLE, None, "", 0)),
            (p.first, (0, 10, -1, True, None, "1", (1,))),
            (p.quiet, (0, -1, DELAY_END, True, None, "1", (1,))),
            (p.spaced, (0, -1, DELAY_END, True, None, "1", (1,))),
            (p.late, (0, -1, DELAY_END, True, None, "1", (1,))),
            (lambda n: p.late(3, room=n), (0, 4, -1, True, None, "1", (1,))),
        ):
            for value in values:
                with self.assertRaises(InvalidPipeline):
                    call(value)
            for value in junk():
                if type(value) is not int and value != ("a", "b", "c", "d", "e"):
                    with self.assertRaises(InvalidPipeline):
                        call(value)
        with self.assertRaises(InvalidPipeline):
            box(("never", 4)).pick(0, 1, 2, 3, 0)

    def test_an_operand_is_checked_first(self):
        p = box(S)
        for value in (None, S, 3):
            with self.assertRaises(InvalidOperation):
                p.or_else(0, value)
            with self.assertRaises(InvalidOperation):
                p.or_else(value, value)
        with self.assertRaises(InvalidPipeline):
            p.or_else(0, box(A))

    def test_signs_in_place_make_others(self):
        p = kept = box(S)
        p += box(T)
        self.assertEqual((p.tree, kept.tree), (("+", S, T), S))

    def test_keywords(self):
        self.assertEqual(box(S).late(3, room=3).tree, ("late", 3, 3, S))
        with self.assertRaises(TypeError):
            box(S).late(3, 2)

    def test_nothing_is_changed(self):
        p, q = box(("&", S, T)), box(("never", 2))
        for value in ([0], {"a": [1]}, ("only", ["a"], S), [["it"]]):
            before = copy.deepcopy(value)
            for call in (p.only, p.fold, p.first, p.pick, p.quiet, p.busy, p.until, p.__add__, p.__rshift__):
                with self.assertRaises((InvalidOperation, InvalidPipeline)):
                    call(value)
            self.assertEqual(value, before)
        p + q, p | q, p & q, p.pick(0), p.again()
        self.assertEqual((p.tree, p.width, p.sources, len(p)), (("&", S, T), 2, ("s", "t"), 3))
        self.assertEqual((q.tree, q.width, q.sources, len(q)), (("never", 2), 2, (), 1))
