"""Trees and pipelines."""

from pushalike.errors import InvalidOperation, InvalidPipeline, UnknownIndex
from pushalike.tree.checks import clocks_of, is_sound, sources_of, told_widths
from pushalike.tree.forms import MAX_PARTS, has_form, is_path, part_at, parts_of, paths_of, with_part
from pushalike.tree.plans import Plan


def is_tree(value):
    """Whether the value has the form of a tree."""
    waiting = [value]
    many = 0
    # One part after another: a value can have far more parts than a tree, so the count comes first.
    while waiting:
        part = waiting.pop()
        many += 1
        if many > MAX_PARTS or not has_form(part):
            return False
        waiting.extend(parts_of(part))
    return True


def is_pipeline_tree(value):
    """Whether the value is the tree of a pipeline."""
    return is_tree(value) and len(told_widths(value)) == 0 and is_sound(value)


class Pipeline:
    """A pipeline; it never changes."""

    def __init__(self, tree):
        if not is_pipeline_tree(tree):
            raise InvalidPipeline("this is not the tree of a pipeline")
        self._tree = tree
        self._plan = Plan(tree, None)
        self._sources = sources_of(tree)
        self._clocks = clocks_of(tree)
        self._paths = paths_of(tree)

    @classmethod
    def of(cls, tree):
        """The pipeline with this tree."""
        return cls(tree)

    @staticmethod
    def source(name):
        """Each event of the source."""
        return Pipeline(("source", name))

    @staticmethod
    def never(width=1):
        """Nothing, and no end."""
        return Pipeline(("never", width))

    @staticmethod
    def one(letter):
        """One output at the begin."""
        return Pipeline(("one", letter))

    @staticmethod
    def after(d, letter):
        """One output when the clock is due."""
        return Pipeline(("after", d, letter))

    @staticmethod
    def every(d, letter):
        """An output whenever the clock is due."""
        return Pipeline(("every", d, letter))

    @property
    def tree(self):
        """The tree."""
        return self._tree

    @property
    def width(self):
        """The number of values in each output."""
        return self._plan.wide

    @property
    def sources(self):
        """The names of the sources, ascending."""
        return self._sources

    @property
    def clocks(self):
        """The number of clocks."""
        return self._clocks

    def __len__(self):
        return len(self._paths)

    def __eq__(self, other):
        return isinstance(other, Pipeline) and self._tree == other._tree

    def __str__(self):
        return f"pipeline of {len(self._paths)} parts"

    def __add__(self, other):
        return Pipeline(("+", self._tree, _tree_of(other)))

    def __and__(self, other):
        return Pipeline(("&", self._tree, _tree_of(other)))

    def __or__(self, other):
        return Pipeline(("then", self._tree, _tree_of(other)))

    def __rshift__(self, other):
        return Pipeline(("switch", self._tree, _pattern_of(other)))

    def busy(self, pattern):
        """Copies of the pattern, none of which drops another one."""
        return Pipeline(("busy", self._tree, _pattern_of(pattern)))

    def at(self, other):
        """The latest output at each output of the other pipeline."""
        return Pipeline(("at", self._tree, _tree_of(other)))

    def until(self, other):
        """The outputs up to the first one of the other pipeline."""
        return Pipeline(("until", self._tree, _tree_of(other)))

    def or_else(self, d, other):
        """The outputs, and the other pipeline once they have paused so long."""
        return Pipeline(("else", d, self._tree, _tree_of(other)))

    def only(self, letters):
        """The outputs with one of these letters."""
        return Pipeline(("only", letters, self._tree))

    def pick(self, *places):
        """The outputs with the values at these places."""
        return Pipeline(("pick", places, self._tree))

    def fold(self, table):
        """The outputs with the letters that the table gives them."""
        return Pipeline(("fold", table, self._tree))

    def first(self, n=1):
        """The first outputs."""
        return Pipeline(("first", n, self._tree))

    def changes(self):
        """The outputs with other values than the one before."""
        return Pipeline(("changes", self._tree))

    def pairs(self):
        """Each output from the second one on, with the values of the one before."""
        return Pipeline(("pairs", self._tree))

    def quiet(self, d):
        """Each output after which there is none for so long."""
        return Pipeline(("quiet", d, self._tree))

    def spaced(self, d):
        """The outputs, none within so long after another."""
        return Pipeline(("spaced", d, self._tree))

    def late(self, d, *, room=1):
        """The outputs so much later, with room for so many on the way."""
        return Pipeline(("late", d, room, self._tree))

    def again(self):
        """The outputs, begun again at each end."""
        return Pipeline(("again", self._tree))

    def __contains__(self, path):
        # Asked first, because True and False equal integers.
        return is_path(path) and path in self._paths

    def paths(self):
        """All paths, each before those that continue it, parts from left to right."""
        for path in self._paths:
            yield path

    def part(self, path):
        """The tree at the path."""
        if path not in self:
            raise UnknownIndex(path)
        return part_at(self._tree, path)

    def replaced(self, path, tree):
        """The pipeline with another tree at the path."""
        if path not in self:
            raise UnknownIndex(path)
        return Pipeline(with_part(self._tree, path, tree))


def plan_of(pipeline):
    """The plan of a pipeline, for the modules that run it."""
    return pipeline._plan


def _tree_of(other):
    """The tree of an operand that is a pipeline."""
    if not isinstance(other, Pipeline):
        raise InvalidOperation("this is no pipeline")
    return other.tree


def _pattern_of(pattern):
    """The tree of a pattern, which is a pipeline or a tree."""
    if isinstance(pattern, Pipeline):
        return pattern.tree
    if not is_tree(pattern):
        raise InvalidOperation("this is neither a pipeline nor a tree")
    return pattern
