import unittest

from pushalike.errors import InvalidPipeline
from pushalike.tree.pipelines import Pipeline, is_tree
from tests.samples import IT, S, T, junk, nested, shared

A, B = ("one", "a"), ("one", "b")
FEW = tuple(("never", w) for w in range(5))
AFTER = ("after", 3, "z")

# What can stand around a part of any width without an ("it",) of its own.
AROUND = (
    lambda part: part,
    lambda part: ("until", S, part),
    lambda part: ("at", S, part),
    lambda part: ("first", 2, ("only", ("a",), part)),
    lambda part: ("+", part, part),
    lambda part: ("switch", part, T),
    lambda part: ("busy", part, T),
    lambda part: ("switch", S, part),
    lambda part: ("busy", S, part),
    lambda part: ("switch", S, ("switch", IT, ("until", IT, part))),
    lambda part: ("busy", S, ("busy", part, IT)),
)


class Trees(unittest.TestCase):
    def right(self, tree, width=None):
        found = Pipeline.of(tree)
        self.assertEqual(found.tree, tree)
        if width is not None:
            self.assertEqual(found.width, width, tree)

    def wrong(self, tree):
        with self.assertRaises(InvalidPipeline, msg=tree):
            Pipeline.of(tree)

    def right_everywhere(self, tree, width=None):
        self.right(tree, width)
        for around in AROUND:
            self.right(around(tree))

    def wrong_everywhere(self, tree):
        self.assertTrue(is_tree(tree), tree)
        for around in AROUND:
            self.assertTrue(is_tree(around(tree)), tree)
            self.wrong(around(tree))


class Forms(Trees):
    def test_what_is_no_tree_is_no_pipeline(self):
        for value in junk() + [(), shared(200), nested("tuple", 20)]:
            with self.assertRaises(InvalidPipeline):
                Pipeline.of(value)
            with self.assertRaises(InvalidPipeline):
                Pipeline.of(("again", value))
        for tree in (["source", "s"], ("source", "it"), ("first", 0, S), ("first", 10, S), ("first", True, S), ("late", 1, 4, S),
                     ("quiet", 10 ** 40, S), ("only", (), S), ("only", ("b", "a"), S), ("fold", (), S), ("never", 5)):
            self.wrong(tree)

    def test_twelve_parts_and_thirteen(self):
        tree = S
        for _ in range(11):
            tree = ("only", ("a",), tree)
        self.right(tree, 1)
        self.wrong(("only", ("a",), tree))

    def test_the_constructor_takes_the_same_trees(self):
        self.assertEqual(Pipeline(S), Pipeline.of(S))
        with self.assertRaises(InvalidPipeline):
            Pipeline(IT)


class Completeness(Trees):
    def test_each_it_has_a_pattern(self):
        for tree in (IT, ("again", IT), ("+", IT, IT), ("until", S, IT), ("switch", IT, S), ("busy", IT, IT),
                     ("switch", S, ("+", IT, S)), ("switch", ("switch", IT, S), IT), ("switch", ("busy", IT, S), S)):
            is_complete = tree == ("switch", S, ("+", IT, S))
            (self.right if is_complete else self.wrong)(tree)

    def test_the_part_before_a_pattern_belongs_to_the_pattern_around(self):
        self.right(("switch", S, ("switch", IT, S)), 1)
        self.right(("busy", S, ("busy", ("busy", IT, S), IT)), 1)
        self.right(("switch", ("switch", S, IT), IT), 1)
        self.wrong(("switch", ("switch", IT, IT), IT))

    def test_no_told(self):
        for w in range(5):
            self.assertTrue(is_tree(("told", w)))
            self.wrong_everywhere(("told", w))
        self.wrong(("until", S, ("told", 1)))


class Widths(Trees):
    def test_leaves(self):
        self.right_everywhere(S, 1)
        for w in range(5):
            self.right_everywhere(("never", w), w)
        for tree in (A, AFTER, ("every", 3, "z")):
            self.right(tree, 0)

    def test_an_it_has_the_width_of_what_begins_its_pattern(self):
        for w in range(5):
            self.right(("switch", ("never", w), IT), w)
            self.right(("busy", ("never", w), IT), w)
            self.right(("busy", ("never", w), ("+", IT, ("never", w))), w)
            self.wrong(("busy", ("never", w), ("+", IT, ("never", (w + 1) % 5))))
        self.right(("switch", ("never", 3), ("switch", ("pick", (2,), IT), IT)), 1)
        self.right(("switch", ("never", 3), ("&", IT, ("switch", ("pick", (2,), IT), IT))), 4)
        self.right(("switch", ("never", 2), ("switch", ("pairs", IT), IT)), 4)
        self.wrong(("switch", ("never", 2), ("switch", ("pairs", IT), ("pairs", IT))))

    def test_operators_that_keep_the_width(self):
        for w in range(5):
            for front in (("only", ("a",)), ("fold", (((0, "a"), (0, "b")),)), ("first", 1), ("quiet", 1), ("spaced", 1),
                          ("late", 1, 2), ("again",)):
                self.right(front + (FEW[w],), w)

    def test_pick(self):
        for w in range(5):
            for place in range(4):
                tree = ("pick", (place,), FEW[w])
                (self.right_everywhere if place < w else self.wrong_everywhere)(tree)
        self.right(("pick", (), A), 0)
        self.right(("pick", (), FEW[4]), 0)
        self.right(("pick", (0, 0, 0, 0), S), 4)
        self.right(("pick", (1, 0, 1), FEW[2]), 3)
        self.wrong_everywhere(("pick", (0, 1), S))
        self.wrong_everywhere(("pick", (0,), A))

    def test_changes(self):
        self.wrong_everywhere(("changes", FEW[0]))
        self.wrong_everywhere(("changes", AFTER))
        for w in range(1, 5):
            self.right_everywhere(("changes", FEW[w]), w)
        self.wrong(("switch", A, ("changes", IT)))
        self.right(("switch", S, ("changes", IT)), 1)

    def test_pairs(self):
        for w in range(3):
            self.right_everywhere(("pairs", FEW[w]), 2 * w)
        for w in (3, 4):
            self.wrong_everywhere(("pairs", FEW[w]))
        self.right(("pairs", ("pairs", S)), 4)
        self.wrong(("pairs", ("pairs", ("pairs", S))))

    def test_two_parts_of_one_width(self):
        for front in (("+",), ("then",), ("else", 3)):
            for w in range(5):
                self.right(front + (FEW[w], FEW[w]), w)
            for w in range(4):
                self.wrong(front + (FEW[w], FEW[w + 1]))
                self.wrong(front + (FEW[w + 1], FEW[w]))
            self.right_everywhere(front + (S, T), 1)
            self.wrong_everywhere(front + (S, AFTER))

    def test_widths_that_are_added(self):
        for one in range(5):
            for other in range(5):
                tree = ("&", FEW[one], FEW[other])
                if one + other <= 4:
                    self.right(tree, one + other)
                else:
                    self.wrong(tree)
        self.right_everywhere(("&", S, FEW[3]), 4)
        self.wrong_everywhere(("&", S, FEW[4]))

    def test_widths_that_need_not_fit(self):
        for word in ("at", "until"):
            for one in range(5):
                for other in range(5):
                    self.right((word, FEW[one], FEW[other]), one)
        for word in ("switch", "busy"):
            for one in range(5):
                for other in range(5):
                    self.right((word, FEW[one], FEW[other]), other)

    def test_widths_matter_where_nothing_is_told(self):
        self.wrong(("pick", (), ("changes", FEW[0])))
        self.wrong(("until", S, ("&", FEW[4], FEW[4])))
        self.wrong(("pick", (0,), ("pick", (3,), ("pick", (0, 1), FEW[4]))))


class Clocks(Trees):
    def test_one_for_each_of_these(self):
        for tree in (AFTER, ("every", 3, "z"), ("quiet", 3, A), ("spaced", 3, A), ("else", 3, A, B)):
            self.assertEqual(Pipeline.of(tree).clocks, 1, tree)
        for tree in (S, FEW[0], A, ("first", 9, S), ("again", S), ("+", S, T), ("switch", S, IT)):
            self.assertEqual(Pipeline.of(tree).clocks, 0, tree)

    def test_room_for_each_of_a_late(self):
        for n in (1, 2, 3):
            self.assertEqual(Pipeline.of(("late", 7, n, S)).clocks, n)

    def test_all_are_counted(self):
        tree = ("switch", ("quiet", 3, ("spaced", 2, S)), ("else", 4, ("until", IT, AFTER), ("late", 9, 1, IT)))
        self.assertEqual(Pipeline.of(tree).clocks, 5)
        self.wrong(("quiet", 1, tree))

    def test_five_and_six(self):
        for make in (lambda part: ("quiet", 3, part), lambda part: ("spaced", 3, part), lambda part: ("late", 3, 1, part),
                     lambda part: ("else", 3, part, FEW[1]), lambda part: ("until", part, AFTER),
                     lambda part: ("until", part, ("every", 2, "a")), lambda part: ("switch", S, ("quiet", 2, part))):
            four = ("quiet", 1, ("quiet", 1, ("quiet", 1, ("quiet", 1, S))))
            self.assertEqual(Pipeline.of(make(four)).clocks, 5)
            self.assertTrue(is_tree(make(make(four))))
            self.wrong(make(make(four)))
            self.wrong(make(("quiet", 1, four)))
            self.wrong(("spaced", 1, make(four)))
        self.right(("late", 3, 3, ("late", 3, 2, S)))
        self.wrong(("late", 3, 3, ("late", 3, 3, S)))
        self.right(("quiet", 3, ("quiet", 3, ("late", 3, 3, S))))
        self.wrong(("quiet", 3, ("quiet", 3, ("quiet", 3, ("late", 3, 3, S)))))


class Properties(unittest.TestCase):
    def test_sources_ascend_without_duplicates(self):
        tree = ("+", ("until", ("source", "z"), ("source", "b")), ("switch", ("source", "ab"), ("then", ("source", "b"), ("source", "a"))))
        self.assertEqual(Pipeline.of(tree).sources, ("a", "ab", "b", "z"))
        self.assertEqual(Pipeline.of(A).sources, ())
        many = Pipeline.of(S)
        for name in "abcdef":
            many = many.until(Pipeline.source(name)) if name < "e" else many
        self.assertEqual(many.sources, ("a", "b", "c", "d", "s"))

    def test_length_counts_operators_and_leaves(self):
        self.assertEqual(len(Pipeline.of(S)), 1)
        self.assertEqual(len(Pipeline.of(("again", S))), 2)
        self.assertEqual(len(Pipeline.of(("+", S, S))), 3)
        self.assertEqual(len(Pipeline.of(("switch", ("+", S, S), ("else", 3, IT, IT)))), 7)

    def test_text(self):
        self.assertEqual(str(Pipeline.of(S)), "pipeline of 1 parts")
        self.assertEqual(str(Pipeline.of(("switch", ("+", S, S), IT))), "pipeline of 5 parts")

    def test_equality(self):
        box = Pipeline.of(("+", S, T))
        self.assertIs(box == Pipeline.of(("+", S, T)), True)
        self.assertIs(box != Pipeline.of(("+", S, T)), False)
        for other in (Pipeline.of(("+", T, S)), Pipeline.of(S), Pipeline.of(("&", S, T)), ("+", S, T), "(+ s t)"):
            self.assertIs(box == other, False)
            self.assertIs(box != other, True)
            self.assertIs(other == box, False)
        for value in junk():
            self.assertIs(Pipeline.of(("+", S, T)) == value, False)
            self.assertIs(Pipeline.of(("+", S, T)) != value, True)

    def test_it_cannot_be_iterated_over(self):
        for call in (iter, list, tuple, sorted, reversed):
            with self.assertRaises(TypeError):
                call(Pipeline.of(S))

    def test_it_cannot_be_changed_by_its_properties(self):
        box = Pipeline.of(("+", S, T))
        for name in ("tree", "width", "sources", "clocks"):
            with self.assertRaises(AttributeError):
                setattr(box, name, 3)
            self.assertIn(type(getattr(box, name)), (int, tuple))


if __name__ == "__main__":
    unittest.main()
