"""Values of every kind that a function may be passed, and trees that many tests use."""

from pushalike.base.tapes import Tape
from pushalike.errors import ParseError, PushError
from pushalike.joint.bounds import Bounds
from pushalike.joint.monitors import Monitor, Watch
from pushalike.joint.stands import Pair
from pushalike.run.live import Live
from pushalike.text.shell import Shell
from pushalike.tree.pipelines import Pipeline
from pushalike.use.chains import Chain
from pushalike.use.wishes import Book

S = ("source", "s")
T = ("source", "t")
IT = ("it",)
MOST = 10 ** 60 - 1
WORDS = (
    "source never one after every told it only pick fold first changes pairs quiet spaced late again "
    "at until then else switch busy"
).split()


def nested(kind, depth):
    """A value nested so deep in tuples, lists or dicts."""
    value = 0
    for _ in range(depth):
        value = {"tuple": (value,), "list": [value], "dict": {"s": value}}[kind]
    return value


def shared(depth):
    """A tree-like tuple with far more parts than can be counted one by one."""
    value = S
    for _ in range(depth):
        value = ("+", value, value)
    return value


def junk():
    """Values of every kind; none of them is a letter, a name, a layout, an event, an output or a tree."""
    return [
        0, 1, -1, 7, MOST, MOST + 1, -MOST, -MOST - 1, 10 ** 99, 10 ** 100 - 1, 1 - 10 ** 100, True, False, None,
        "", " ", "A", "aB", "a b", "a\n", "\n", "1", "-", "+", "&", "_", "a" * 9, "a" * 4000, "~" * 4000, "source",
        "it", "()", "(it)", (None,), (True,), ("a", "b", "c", "d", "e"), ("", ()), ((),), (("it",),), (1, 2, 3, 4),
        [], ["a"], ["it"], ["source", "s"], [0, "s", "a", 1], ["a", ()], [[]], {}, {"s": ["a"]}, {"s": "a"},
        {1: ("a",)}, {None: None}, {"it": ("a",)}, {"s": ()}, {(): ()}, nested("tuple", 20), nested("list", 20),
        nested("dict", 20), shared(19), Tape(), Tape(((0, "s", "a", 1),)), (Tape(),), Bounds.zero(0), Bounds.zero(1),
        Live(Pipeline.source("s")), Pair(Pipeline.source("s"), Pipeline.source("s"), {"s": ("a",)}),
        Pipeline.source("s"), (Pipeline.source("s"),), [Pipeline.source("s")],
        {"s": Pipeline.source("s")}, (Pipeline.source("s"), "s"), PushError("told"), ParseError(3),
        Monitor.of(("told", 3)), (Monitor.of(S),), Watch(Pipeline.source("s"), Monitor.of(("first", 7, S)), {"s": ("a",)}), Book({"s": ("a",)}),
        Chain({"s": ("a", "z")}, Pipeline.source("s")), Shell({"s": ("a",)}),
    ]
