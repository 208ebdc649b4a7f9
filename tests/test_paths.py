import unittest

from pushalike.errors import InvalidPipeline, UnknownIndex
from pushalike.tree.pipelines import Pipeline
from tests.samples import IT, MOST, S, T, junk, nested

INNER = ("until", IT, ("after", 5, "z"))
TREE = ("else", 4, ("only", ("a",), ("+", S, T)), ("switch", ("quiet", 3, S), INNER))
PARTS = {
    (): TREE, (0,): TREE[2], (0, 0): ("+", S, T), (0, 0, 0): S, (0, 0, 1): T, (1,): TREE[3], (1, 0): ("quiet", 3, S), (1, 0, 0): S,
    (1, 1): INNER, (1, 1, 0): IT, (1, 1, 1): ("after", 5, "z"),
}
NO_PATHS = [
    (2,), (-1,), (0, 1), (0, -1), (0, 0, 2), (0, 0, 0, 0), (1, 2), (1, 1, 1, 0), (0, 0, 0, 0, 0), (MOST,), (10 ** 99,), (True,), (False,),
    (0, False), (True, True), (None,), ("0",), ("",), ((),), ((0,),), (0, (0,)), ([],), ({},), (0, None), [], [0], [0, 0], {}, {0: 0},
    "", "0", 0, 1, None, True, False, MOST, -1, nested("tuple", 20), nested("list", 20), Pipeline.of(S), (Pipeline.of(S),), S, TREE,
]


class Paths(unittest.TestCase):
    def setUp(self):
        self.box = Pipeline.of(TREE)

    def test_order(self):
        self.assertEqual(list(self.box.paths()), list(PARTS))
        self.assertEqual(list(Pipeline.of(S).paths()), [()])
        self.assertEqual(list(Pipeline.of(("&", ("again", S), T)).paths()), [(), (0,), (0, 0), (1,)])

    def test_paths_are_a_generator(self):
        paths = self.box.paths()
        self.assertIs(iter(paths), paths)
        self.assertEqual(next(paths), ())
        self.assertEqual(next(paths), (0,))
        self.assertEqual(next(self.box.paths()), ())

    def test_as_many_as_the_length(self):
        self.assertEqual(len(list(self.box.paths())), len(self.box))

    def test_parts(self):
        for path, tree in PARTS.items():
            self.assertEqual(self.box.part(path), tree)

    def test_in(self):
        for path in PARTS:
            self.assertIs(path in self.box, True)
        for value in NO_PATHS + junk():
            self.assertIs(value in self.box, False)

    def test_indices_are_those_of_the_parts(self):
        for tree, many in ((("late", 3, 2, S), 1), (("else", 3, S, T), 2), (("fold", (((0, "a"), (0, "")),), S), 1), (("after", 3, "a"), 0),
                           (("pick", (0, 0), S), 1), (("source", "s"), 0), (("only", ("a", "b"), S), 1)):
            box = Pipeline.of(tree)
            self.assertEqual([k for k in range(-2, 5) if (k,) in box], list(range(many)))

    def test_no_such_part(self):
        for value in NO_PATHS + junk():
            with self.assertRaises(UnknownIndex) as caught:
                self.box.part(value)
            self.assertIs(caught.exception.index, value)
            with self.assertRaises(UnknownIndex) as caught:
                self.box.replaced(value, S)
            self.assertIs(caught.exception.index, value)


class Replaced(unittest.TestCase):
    def setUp(self):
        self.box = Pipeline.of(TREE)

    def test_another_tree_stands_there(self):
        for path in PARTS:
            width = 0 if path == (1, 1, 1) else 1
            other = ("never", width)
            found = self.box.replaced(path, other)
            self.assertIsInstance(found, Pipeline)
            self.assertEqual(found.part(path), other)
            for left in PARTS:
                if left[:len(path)] != path and path[:len(left)] != left:
                    self.assertEqual(found.part(left), PARTS[left])
        self.assertEqual(self.box.tree, TREE)

    def test_all_around_stays(self):
        found = self.box.replaced((1, 1, 0), ("first", 2, IT))
        self.assertEqual(found.tree, ("else", 4, TREE[2], ("switch", ("quiet", 3, S), ("until", ("first", 2, IT), ("after", 5, "z")))))
        self.assertEqual(self.box.replaced((0, 0, 1), S).tree, ("else", 4, ("only", ("a",), ("+", S, S)), TREE[3]))
        self.assertEqual(self.box.replaced((), T).tree, T)

    def test_the_same_tree(self):
        for path, tree in PARTS.items():
            self.assertEqual(self.box.replaced(path, tree), self.box)

    def test_trees_that_are_no_pipelines(self):
        for path, tree in (
            ((), IT), ((), ("told", 1)), ((0,), IT), ((1, 0), IT), ((1, 0, 0), ("one", "a")), ((0, 0, 0), ("never", 2)), ((1, 1, 0), ("told", 1)),
            ((1,), ("again", ("one", "a"))), ((1, 1, 0), ("again", IT)), ((0, 0), ("late", 1, 3, S)), ((), ("again", ("one", "a"))),
        ):
            with self.assertRaises(InvalidPipeline):
                self.box.replaced(path, tree)

    def test_as_many_parts_as_a_tree_has(self):
        self.assertEqual(len(self.box.replaced((0, 0, 0), ("again", S))), 12)
        with self.assertRaises(InvalidPipeline):
            self.box.replaced((0, 0, 0), ("again", ("again", S)))

    def test_what_is_no_tree(self):
        for value in junk() + [(), list(S), [S], (S,), Pipeline.of(S)]:
            for path in PARTS:
                with self.assertRaises(InvalidPipeline):
                    self.box.replaced(path, value)

    def test_the_path_is_checked_first(self):
        with self.assertRaises(UnknownIndex):
            self.box.replaced((7,), None)
        with self.assertRaises(UnknownIndex):
            self.box.replaced(None, None)
