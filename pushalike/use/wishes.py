"""Wishes for what pipelines tell, as monitors, and books of monitors."""

from pushalike.base.words import is_between, is_layout, is_letters, is_name
from pushalike.errors import InvalidLayout, InvalidNumber, InvalidOperation, InvalidPipeline, UnknownName
from pushalike.joint.looks import check_limit
from pushalike.joint.monitors import Monitor, keeps
from pushalike.tree.forms import is_argument
from pushalike.tree.pipelines import Pipeline

# The letters that monitors use themselves: of each output, of each room or mark for one, and of a broken wish.
OUTPUT = "o"
ROOM = "r"
BROKEN = "z"
MAX_WIDTH = 4


def no_letter(letters, *, width=1):
    """Broken at each output with one of the letters."""
    check_argument(is_letters(letters))
    check_width(width)
    return Monitor.of(("only", letters, ("told", width)))


def apart(d, *, width=1):
    """Broken at each output that is told less than `d` after another one."""
    check_argument(is_argument(d, "delay"))
    check_width(width)
    return crowded(1, d, width)


def at_most(n, d, *, width=1):
    """Broken at each output that is told less than `d` after each of at least `n` others."""
    check_argument(is_argument(n, "room") and is_argument(d, "delay"))
    check_width(width)
    return crowded(n, d, width)


def crowded(n, d, width):
    """The monitor of `at_most`."""
    # As long as the wish holds, each output is on its way through the late for `d`, and the state of the fold tells
    # how many are: those that leave make room before new ones come.
    leaving = ("late", d, n, each_output(ROOM, width))
    coming = tuple([((many, OUTPUT), (many + 1, "")) for many in range(n)]) + (((n, OUTPUT), (n, BROKEN)),)
    going = tuple([((many, ROOM), (many - 1, "")) for many in range(1, n + 1)])
    return Monitor.of(("fold", tuple(sorted(coming + going)), ("+", leaving, each_output(OUTPUT, width))))


def single(*, width=1):
    """Broken at each cause at which more than one output is told."""
    check_width(width)
    # The at tells once at each cause with outputs, ahead of these: a mark for the first of them alone.
    mark = ("at", each_output(ROOM, width), ("told", width))
    table = (((0, OUTPUT), (0, BROKEN)), ((0, ROOM), (1, "")), ((1, OUTPUT), (0, "")))
    return Monitor.of(("fold", table, ("+", mark, each_output(OUTPUT, width))))


def lively(d, *, width=1):
    """Broken at the moment `d` after the begin or the latest output, if none is told before it."""
    check_argument(is_argument(d, "delay"))
    check_width(width)
    return Monitor.of(("only", (BROKEN,), ("else", d, each_output(OUTPUT, width), ("one", BROKEN))))


def answered(layout, source, d, *, width=1):
    """Broken at the moment `d` after an event of the source, if no output is told at it or up to this moment."""
    if not is_layout(layout):
        raise InvalidLayout("this is no layout")
    if not isinstance(source, str) or source not in layout:
        raise UnknownName(source)
    check_argument(is_argument(d, "delay"))
    check_width(width)
    # Each output drops the copy, even at the moment at which its clock is due, and with it all events so far.
    outputs = ("+", ("one", OUTPUT), ("pick", (), ("told", width)))
    return Monitor.of(("switch", outputs, ("busy", ("source", source), ("after", d, BROKEN))))


def each_output(letter, width):
    """The tree that tells this letter alone for each output of the pipeline."""
    return ("switch", ("told", width), ("one", letter))


def check_argument(right):
    """Raises the error for an argument that is not right."""
    if not right:
        raise InvalidPipeline("there is no such wish")


def check_width(width):
    """Raises the error for what is no width."""
    if not is_between(width, 0, MAX_WIDTH):
        raise InvalidNumber(width)


class Book:
    """A book of monitors with names."""

    def __init__(self, layout):
        if not is_layout(layout):
            raise InvalidLayout("this is no layout")
        self._layout = {name: layout[name] for name in layout}
        self._monitors = {}

    def put(self, name, monitor):
        """The name stands for this monitor from now on."""
        if not is_name(name) or not isinstance(monitor, Monitor):
            raise InvalidOperation("this is no name, or no monitor")
        self._monitors[name] = monitor

    def __setitem__(self, name, monitor):
        self.put(name, monitor)

    def __getitem__(self, name):
        if name not in self:
            raise UnknownName(name)
        return self._monitors[name]

    def __contains__(self, name):
        # Asked first, because other values perhaps cannot be looked up.
        return is_name(name) and name in self._monitors

    def __iter__(self):
        raise TypeError("a book cannot be iterated over")

    def __len__(self):
        return len(self._monitors)

    def names(self):
        """The names, ascending."""
        return tuple(sorted(self._monitors))

    def kept(self, pipeline, *, limit=500):
        """The names of the monitors that the pipeline keeps, ascending."""
        if not isinstance(pipeline, Pipeline):
            raise InvalidPipeline("this is no pipeline")
        check_limit(limit)
        found = []
        for name in sorted(self._monitors):
            if keeps(pipeline, self._monitors[name], self._layout, limit=limit):
                found.append(name)
        return tuple(found)
