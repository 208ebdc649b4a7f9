import unittest

from pushalike.errors import InvalidPipeline
from pushalike.tree.pipelines import Pipeline, is_tree
from tests.samples import IT, S

A, B, C = ("one", "a"), ("one", "b"), ("one", "c")
AFTER = ("after", 3, "z")
NONE = ("never", 0)
AB = ("+", A, B)
NO = ("only", ("c",), A)
# Ends at its begin for the letter a, and goes on for others.
UNLESS_A = ("until", AFTER, ("only", ("a",), IT))


class Again(unittest.TestCase):
    def is_pipeline(self, tree):
        self.assertTrue(is_tree(tree), tree)
        try:
            Pipeline.of(tree)
        except InvalidPipeline:
            return False
        return True

    def over(self, *trees):
        """These are over at their begin."""
        for tree in trees:
            self.assertTrue(self.is_pipeline(tree), tree)
            self.assertFalse(self.is_pipeline(("again", tree)), tree)
            if is_tree(("switch", S, ("again", tree))):
                self.assertFalse(self.is_pipeline(("switch", S, ("again", tree))), tree)

    def going(self, *trees):
        """These are not over at their begin."""
        for tree in trees:
            self.assertTrue(self.is_pipeline(tree), tree)
            self.assertTrue(self.is_pipeline(("again", tree)), tree)
            if is_tree(("switch", S, ("again", tree))):
                self.assertTrue(self.is_pipeline(("switch", S, ("again", tree))), tree)

    def tells(self, *trees):
        """These tell an output at their begin."""
        for tree in trees:
            self.over(("until", S, tree))

    def silent(self, *trees):
        """These tell no output at their begin."""
        for tree in trees:
            self.going(("until", S, tree))

    def test_leaves(self):
        self.over(A)
        self.going(S, NONE, ("never", 4), AFTER, ("every", 3, "z"))
        self.tells(A)
        self.silent(S, NONE, AFTER, ("every", 3, "z"))

    def test_only_and_pick(self):
        self.over(("only", ("a",), A), NO, ("pick", (), A))
        self.going(("only", ("z",), AFTER), ("pick", (), S))
        self.tells(("only", ("a", "c"), A), ("only", ("b",), AB), ("pick", (), A))
        self.silent(NO, ("pick", (), NO), ("pairs", ("pairs", ("only", ("a", "b"), AB))))

    def test_fold(self):
        table = (((0, "a"), (1, "")), ((1, "b"), (2, "c")))
        self.over(("fold", table, A), ("fold", table, AB))
        self.going(("fold", table, AFTER))
        self.tells(("fold", table, AB), ("only", ("c",), ("fold", table, AB)), ("fold", table, ("+", A, ("+", C, B))))
        self.silent(("fold", table, A), ("fold", table, ("+", B, A)), ("only", ("b",), ("fold", table, AB)))
        self.silent(("fold", table, B), ("pairs", ("fold", table, ("+", AB, AB))))

    def test_first(self):
        self.over(("first", 1, A), ("first", 2, A), ("first", 1, ("+", A, NONE)), ("first", 2, ("+", AB, NONE)))
        self.over(("first", 1, ("+", AB, NONE)))
        self.going(("first", 2, ("+", A, NONE)), ("first", 3, ("+", AB, NONE)), ("first", 1, S))
        self.tells(("pairs", ("first", 2, AB)), ("only", ("b",), ("first", 2, AB)))
        self.silent(("pairs", ("first", 1, AB)), ("only", ("b",), ("first", 1, AB)), ("first", 1, NO))

    def test_changes_and_pairs(self):
        self.going(("changes", S), ("pairs", S), ("pairs", AFTER))
        self.over(("pairs", A), ("pairs", AB), ("changes", ("until", S, A)))
        self.tells(("pairs", AB), ("only", ("b",), ("pairs", AB)))
        self.silent(("pairs", A), ("only", ("a",), ("pairs", AB)), ("pairs", ("pairs", AB)))

    def test_quiet(self):
        self.over(("quiet", 3, A), ("quiet", 3, NO))
        self.going(("quiet", 3, ("+", A, NONE)), ("quiet", 3, S))
        self.tells(("quiet", 3, A), ("only", ("b",), ("quiet", 3, AB)))
        self.silent(("quiet", 3, ("+", A, NONE)), ("only", ("a",), ("quiet", 3, AB)), ("pairs", ("quiet", 3, AB)))

    def test_spaced(self):
        self.over(("spaced", 3, A), ("spaced", 3, AB))
        self.going(("spaced", 3, ("+", A, NONE)))
        self.tells(("spaced", 3, A), ("only", ("a",), ("spaced", 3, AB)), ("spaced", 3, ("+", A, NONE)))
        self.silent(("only", ("b",), ("spaced", 3, AB)), ("pairs", ("spaced", 3, AB)))

    def test_late(self):
        self.over(("late", 3, 1, NO))
        self.going(("late", 3, 1, S), ("late", 3, 1, NONE), ("late", 3, 1, A), ("late", 3, 3, AB), ("late", 3, 2, ("+", A, NONE)))
        self.silent(("late", 3, 1, A), ("late", 3, 3, AB))

    def test_again_within_again(self):
        self.going(("again", S), ("again", AFTER), ("again", ("late", 3, 1, A)))
        self.over(("first", 1, ("again", ("+", A, AFTER))))
        self.tells(("again", ("+", A, AFTER)))
        self.silent(("again", AFTER))
        self.assertFalse(self.is_pipeline(("again", ("again", A))))

    def test_plus(self):
        self.over(AB)
        self.going(("+", A, AFTER), ("+", AFTER, A), ("+", S, S))
        self.tells(("+", NO, A), ("+", A, NO), ("+", A, NONE), ("+", NONE, A))
        self.silent(("+", NO, NO), ("pairs", ("+", A, NO)))

    def test_both(self):
        self.over(("&", A, B), ("&", NO, B))
        self.going(("&", A, AFTER), ("&", AFTER, A), ("&", NO, S))
        self.tells(("&", A, B), ("only", ("b",), ("&", A, B)), ("pairs", ("&", A, AB)), ("&", ("+", A, NONE), B))
        self.silent(("&", A, NO), ("&", NO, A), ("only", ("a",), ("&", A, B)), ("pairs", ("&", AB, A)), ("&", A, AFTER))

    def test_at(self):
        self.over(("at", AFTER, A), ("at", S, NO), ("at", A, B))
        self.going(("at", A, AFTER), ("at", A, S))
        self.tells(("at", A, B), ("only", ("b",), ("at", AB, C)), ("at", ("+", A, NONE), ("+", C, NONE)))
        self.silent(("at", A, NO), ("at", NO, A), ("only", ("a", "c"), ("at", AB, C)), ("pairs", ("at", AB, AB)))

    def test_until(self):
        self.over(("until", A, AFTER), ("until", AFTER, A), ("until", S, ("+", A, NONE)), ("until", A, NONE))
        self.going(("until", S, NO), ("until", AFTER, AFTER))
        self.tells(("until", A, B), ("pairs", ("until", AB, C)), ("until", A, NONE))
        self.silent(("until", NO, A), ("until", NONE, A), ("only", ("b",), ("until", A, B)))

    def test_then(self):
        self.over(("then", A, B), ("then", NO, A))
        self.going(("then", A, AFTER), ("then", AFTER, A), ("then", S, ("first", 1, S)))
        self.tells(("pairs", ("then", A, B)), ("only", ("b",), ("then", NO, B)), ("then", A, NONE))
        self.silent(("then", NONE, A), ("only", ("b",), ("then", ("+", A, NONE), B)))

    def test_else(self):
        self.over(("else", 3, A, AFTER), ("else", 3, NO, B))
        self.going(("else", 3, AFTER, A), ("else", 1, NONE, A))
        self.tells(("else", 3, A, B))
        self.silent(("else", 3, NO, B), ("else", 3, NONE, A), ("only", ("b",), ("else", 3, A, B)))

    def test_switch(self):
        self.over(("switch", A, IT), ("switch", A, B), ("switch", NO, S), ("switch", ("+", B, A), UNLESS_A))
        self.going(("switch", A, S), ("switch", S, A), ("switch", ("+", A, NONE), B), ("switch", AB, UNLESS_A))
        self.tells(("pairs", ("switch", AB, IT)), ("switch", A, ("switch", IT, ("only", ("a",), IT))))
        self.tells(("only", ("b",), ("switch", A, ("switch", B, IT))), ("pairs", ("switch", A, ("then", IT, ("+", IT, NONE)))))
        self.silent(("only", ("a",), ("switch", A, ("switch", B, IT))), ("switch", NO, A), ("switch", A, AFTER))
        self.silent(("pairs", ("switch", A, IT)))
        self.tells(("pairs", ("switch", AB, ("+", IT, NONE))))

    def test_busy(self):
        self.over(("busy", A, IT), ("busy", NO, S), ("busy", ("+", A, A), UNLESS_A))
        self.going(("busy", A, S), ("busy", S, A), ("busy", ("+", A, NONE), B))
        self.going(("busy", AB, UNLESS_A), ("busy", ("+", B, A), UNLESS_A))
        self.tells(("pairs", ("busy", AB, IT)), ("busy", A, ("busy", IT, ("only", ("a",), IT))))
        self.silent(("pairs", ("busy", AB, ("+", IT, NONE))), ("busy", NO, A), ("busy", A, AFTER))
        self.silent(("only", ("b",), ("busy", AB, ("+", IT, NONE))))

    def test_outputs_keep_their_order(self):
        table = (((0, "a"), (1, "b")), ((1, "b"), (0, "a")))
        for tree in (AB, ("fold", table, ("+", A, B)), ("then", A, B), ("switch", AB, IT), ("busy", AB, IT), ("only", ("a", "b"), AB)):
            early, late = ("b", "a") if tree[0] == "fold" else ("a", "b")
            self.tells(("only", (early,), ("first", 1, tree)), ("only", (late,), ("quiet", 3, tree)))
            self.silent(("only", (late,), ("first", 1, tree)), ("only", (early,), ("quiet", 3, tree)))

    def test_no_it_of_a_pattern_around(self):
        for part in (("late", 3, 1, IT), ("+", IT, S), ("switch", IT, S), ("switch", ("+", IT, S), S), ("busy", ("first", 1, IT), IT), ("again", ("+", S, IT))):
            self.assertTrue(self.is_pipeline(("switch", S, ("+", S, IT))), part)
            self.assertFalse(self.is_pipeline(("switch", S, ("again", part))), part)
            self.assertFalse(self.is_pipeline(("busy", S, ("switch", S, ("again", part)))), part)

    def test_an_it_of_a_pattern_inside(self):
        for part in (("switch", S, IT), ("busy", AFTER, ("late", 2, 2, IT)), ("switch", ("switch", S, IT), ("switch", IT, IT))):
            self.going(part)

    def test_an_it_of_a_pattern_around_beside_the_operator(self):
        self.assertTrue(self.is_pipeline(("switch", S, ("+", IT, ("again", S)))))
        self.assertTrue(self.is_pipeline(("switch", ("again", S), IT)))
        self.assertTrue(self.is_pipeline(("switch", S, ("switch", ("again", S), IT))))
        self.assertFalse(self.is_pipeline(("switch", S, ("switch", ("again", ("+", S, IT)), IT))))
