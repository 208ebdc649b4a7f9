import unittest

from pushalike.base.arguments import ARGUMENTS
from pushalike.tree.pipelines import is_tree
from tests.samples import IT, MOST, S, WORDS, junk, nested, shared

DELAY_END = 10 ** 40
TABLE = (((0, "a"), (1, "b")),)

# Of each kind of argument: values that are right, and values that are wrong.
KINDS = {
    "name": (("s", "z", "abcdefgh", "end"), ("", "S", "abcdefghi", "a1", "it", "source", "busy", 1, None, ("s",), ["s"])),
    "letter": (("a", "z"), ("", "A", "ab", "-", "1", 1, None, True, ("a",), ["a"])),
    "width": ((0, 1, 4), (-1, 5, MOST, 10 ** 99, True, False, None, "1", (1,), [1])),
    "delay": ((1, 2, DELAY_END - 1), (0, -1, DELAY_END, MOST, MOST + 1, True, False, None, "1", (1,), [1])),
    "count": ((1, 2, 9), (0, -1, 10, MOST, True, False, None, "1", (1,), [1])),
    "room": ((1, 2, 3), (0, -1, 4, 9, MOST, True, False, None, "1", (1,), [1])),
    "letters": (
        (("a",), ("z",), ("a", "z"), ("a", "b", "c", "d", "e"), tuple("abcdefghijklmnopqrstuvwxyz")),
        ((), ("b", "a"), ("a", "a"), ("a", "b", "b"), ("a", "A"), ("ab",), ("",), ("a", 1), (1,), (None,), (True,),
         (("a",),), (["a"],), ["a"], "a", "ab", {"a": 1}, {}, None, 1),
    ),
    "places": (
        ((), (0,), (3,), (0, 0), (3, 2, 1, 0), (1, 1, 1, 1)),
        ((4,), (-1,), (0, 4), (0, 1, 2, 3, 0), (0,) * 5, (True,), (False,), (0, True), (None,), ("0",), ((0,),),
         ([0],), [0], [], "0", "", {}, {0: 0}, None, 0, True, (10 ** 99,)),
    ),
    "table": (
        (TABLE, (((0, "a"), (0, "")),), (((8, "z"), (8, "z")),), (((0, "a"), (1, "")), ((0, "b"), (0, "z")), ((1, "a"), (8, "a"))),
         tuple(((k // 5, "abcde"[k % 5]), (8, "a")) for k in range(20)), (((0, "a"), (8, "z")), ((8, "a"), (0, "a")))),
        ((), tuple(((k // 5, "abcde"[k % 5]), (8, "a")) for k in range(21)), TABLE + TABLE,
         TABLE + (((0, "a"), (2, "b")),), (((1, "a"), (0, "")), ((0, "a"), (0, ""))), (((0, "b"), (0, "")), ((0, "a"), (0, ""))),
         (((0, "a"), (9, "b")),), (((9, "a"), (0, "b")),), (((-1, "a"), (0, "b")),), (((0, "a"), (-1, "b")),),
         (((True, "a"), (0, "b")),), (((0, "a"), (True, "b")),), (((False, "a"), (0, "b")),), (((0, "a"), (None, "b")),),
         (((0, ""), (0, "b")),), (((0, "A"), (0, "b")),), (((0, "a"), (0, "ab")),), (((0, "a"), (0, "-")),),
         (((0, "a"), (0, None)),), (((0, 1), (0, "a")),), (((0, "a"), (0, 1)),), (((0, "a"), (0, ())),),
         (((0, "a"),),), (((0, "a"), (0, "b"), (0, "c")),), (((0, "a", 0), (0, "b")),), (((0, "a"), (0,)),), (((0,), (0, "b")),),
         ([(0, "a"), (1, "b")],), (([0, "a"], (1, "b")),), (((0, "a"), [1, "b"]),), [((0, "a"), (1, "b"))],
         ((0, "a"), (1, "b")), {(0, "a"): (1, "b")}, "0a1b", None, 0, (None,), ("0a1b",), ((),), (((), ()),)),
    ),
    "part": ((S, IT, ("told", 2), ("first", 1, S)), ("s", "it", (), ["source", "s"], ["it"], None, 1, True, (S,), ("what",))),
}

# For each word the kinds of what stands behind it.
FORMS = {
    "source": "name", "never": "width", "one": "letter", "after": "delay letter", "every": "delay letter", "told": "width",
    "it": "", "only": "letters part", "pick": "places part", "fold": "table part", "first": "count part",
    "changes": "part", "pairs": "part", "quiet": "delay part", "spaced": "delay part", "late": "delay room part",
    "again": "part", "+": "part part", "&": "part part", "at": "part part", "until": "part part", "then": "part part",
    "else": "delay part part", "switch": "part part", "busy": "part part",
}


def right_trees():
    """For each word a tree with arguments that are right."""
    return [(word,) + tuple(KINDS[kind][0][0] for kind in kinds.split()) for word, kinds in FORMS.items()]


def with_argument(tree, at, value):
    return tree[:at] + (value,) + tree[at + 1:]


def row(many):
    """A tree with so many operators and leaves."""
    tree = S
    for _ in range(many - 1):
        tree = ("again", tree)
    return tree


class IsTree(unittest.TestCase):
    def right(self, value):
        self.assertIs(is_tree(value), True, value)

    def wrong(self, value):
        self.assertIs(is_tree(value), False)

    def test_all_words_are_here(self):
        self.assertEqual(sorted(FORMS), sorted(WORDS + ["+", "&"]))
        self.assertEqual({word: " ".join(kinds) for word, kinds in ARGUMENTS.items()}, FORMS)

    def test_each_word(self):
        for tree in right_trees():
            self.right(tree)

    def test_each_argument(self):
        for tree in right_trees():
            for at, kind in enumerate(FORMS[tree[0]].split(), 1):
                for value in KINDS[kind][0]:
                    self.right(with_argument(tree, at, value))
                for value in KINDS[kind][1]:
                    self.wrong(with_argument(tree, at, value))

    def test_each_argument_within_another_tree(self):
        for tree in right_trees():
            for at, kind in enumerate(FORMS[tree[0]].split(), 1):
                self.right(("+", ("switch", S, tree), S))
                wrong = with_argument(tree, at, KINDS[kind][1][-1])
                self.wrong(("+", ("switch", S, wrong), S))
                self.wrong(("else", 3, S, ("first", 1, wrong)))

    def test_too_few_and_too_many_items(self):
        for tree in right_trees():
            self.wrong(tree + (S,))
            self.wrong(tree + (1,))
            if len(tree) > 1:
                self.wrong(tree[:-1])
                self.wrong(tree[:1])
                self.wrong(tree[:1] + tree[2:])
                self.wrong(tree + tree[1:])

    def test_a_list_is_no_tuple(self):
        for tree in right_trees():
            self.wrong(list(tree))
            self.wrong(("again", list(tree)))
            self.wrong([tree])
            self.wrong((tree,))

    def test_other_words(self):
        for word in ("", "Source", "sources", "|", ">>", "or", "wait", "s", None, 1, True, (), ("it",), ["it"], {}):
            self.wrong((word,))
            self.wrong((word, S))
            self.wrong((word, "s"))
            self.wrong((word, 1, S))
            self.wrong((word, S, S))

    def test_arguments_in_another_order(self):
        self.wrong(("after", "z", 5))
        self.wrong(("first", S, 1))
        self.wrong(("late", 4, 4, S))
        self.right(("late", 4, 3, S))
        self.wrong(("else", S, S, 3))

    def test_twelve_parts_and_thirteen(self):
        self.right(row(12))
        self.wrong(row(13))
        self.wrong(row(20))
        self.right(("+", row(5), row(6)))
        self.wrong(("+", row(6), row(6)))
        self.wrong(("+", row(5), row(7)))
        self.right(("switch", ("&", row(3), row(3)), ("else", 9, row(2), row(1))))
        self.wrong(("switch", ("&", row(3), row(3)), ("else", 9, row(2), row(2))))

    def test_widths_and_patterns_do_not_matter(self):
        for tree in (IT, ("told", 4), ("+", S, ("one", "a")), ("changes", ("one", "a")), ("pick", (3,), S), ("again", ("one", "a")),
                     ("pairs", ("never", 4)), ("&", ("never", 4), ("never", 4)), ("late", 1, 3, ("late", 1, 3, S)), ("again", IT)):
            self.right(tree)

    def test_values_of_every_kind(self):
        for value in junk():
            self.wrong(value)
            self.wrong(("again", value))
            self.wrong(("+", S, value))
            self.assertIs(is_tree((value,)), isinstance(value, str) and value == "it")
            self.wrong((value, S))
            self.wrong([value])

    def test_values_that_share_their_parts(self):
        self.wrong(shared(3))
        self.right(shared(2))
        self.wrong(shared(200))
        self.wrong(nested("tuple", 20))
