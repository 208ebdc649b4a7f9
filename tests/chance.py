"""Pipelines, tapes and walks by chance, the same ones in each run."""

import random

from pushalike.base.tapes import Tape
from pushalike.errors import InvalidPipeline
from pushalike.joint.monitors import Monitor
from pushalike.tree.forms import all_parts, part_at, paths_of, with_part
from pushalike.tree.pipelines import Pipeline, is_tree

LAYOUT = {"s": ("a", "b"), "t": ("a", "c")}
LETTERS = "abc"
SINGLES = "only pick fold first changes pairs quiet spaced late again".split()
DOUBLES = "+ & at until then else switch busy".split()


class Chance:
    def __init__(self, seed):
        self.random = random.Random(seed)

    def one_of(self, values):
        return self.random.choice(list(values))

    def delay(self):
        return self.random.randint(1, 4)

    def letters(self):
        return tuple(sorted(self.random.sample(LETTERS, self.random.randint(1, 3))))

    def table(self):
        keys = sorted(self.random.sample([(state, letter) for state in range(3) for letter in LETTERS], self.random.randint(1, 6)))
        return tuple((key, (self.random.randint(0, 2), self.one_of(["", "a", "b", "c"]))) for key in keys)

    def leaf(self, inside):
        kinds = ["source"] * 6 + ["never", "one", "one", "after", "after", "every"] + (["it"] * 5 if inside else [])
        word = self.one_of(kinds)
        if word == "source":
            return (word, self.one_of("st"))
        if word == "never":
            return (word, self.random.randint(0, 2))
        if word == "one":
            return (word, self.one_of(LETTERS))
        return (word,) if word == "it" else (word, self.delay(), self.one_of(LETTERS))

    def tree(self, parts, inside=False):
        """A tree with so many parts, perhaps no pipeline."""
        if parts == 1:
            return self.leaf(inside)
        if parts == 2 or self.random.random() < 0.4:
            part = self.tree(parts - 1, inside)
            word = self.one_of(SINGLES)
            if word == "only":
                return (word, self.letters(), part)
            if word == "pick":
                return (word, tuple(self.random.randint(0, 1) for _ in range(self.random.randint(0, 2))), part)
            if word == "fold":
                return (word, self.table(), part)
            if word == "first":
                return (word, self.random.randint(1, 3), part)
            if word in ("quiet", "spaced"):
                return (word, self.delay(), part)
            return (word, self.delay(), self.random.randint(1, 3), part) if word == "late" else (word, part)
        left = self.random.randint(1, parts - 2)
        word = self.one_of(DOUBLES)
        first = self.tree(left, inside)
        second = self.tree(parts - 1 - left, inside or word in ("switch", "busy"))
        return (word, self.delay(), first, second) if word == "else" else (word, first, second)

    def pipeline(self, most=9):
        """A pipeline with at most so many parts."""
        while True:
            tree = self.tree(self.random.randint(1, most))
            if is_tree(tree):
                try:
                    return Pipeline.of(tree)
                except InvalidPipeline:
                    pass

    def pair(self, most=6):
        """Two pipelines of one width."""
        one = self.pipeline(most)
        while True:
            other = self.pipeline(most)
            if other.width == one.width:
                return one, other

    def changed(self, tree):
        """A tree with one thing in it changed: a number, a letter, a word, or a part more or less."""
        path = self.one_of(paths_of(tree))
        part = part_at(tree, path)
        near = [part, ("first", 3, part), ("changes", part), ("spaced", 1, part), ("quiet", 1, part), ("switch", part, ("it",)), ("busy", part, ("it",)),
                ("only", ("a", "b", "c"), part), ("again", part), ("until", part, ("source", "t")), ("+", part, part), ("at", part, part),
                ("then", part, part), ("until", part, ("never", 1)), ("fold", (((0, "a"), (0, "a")), ((0, "b"), (0, "b")), ((0, "c"), (0, "c"))), part)]
        near += [inner for inner in all_parts(part)]
        for at, item in enumerate(part):
            if isinstance(item, int):
                near += [part[:at] + (item + 1,) + part[at + 1:]] * 2 + [part[:at] + (item - 1,) + part[at + 1:]] * 2
        if len(part) == 3 and isinstance(part[1], tuple) and isinstance(part[2], tuple):
            near += [(part[0], part[2], part[1])] * 2
        return with_part(tree, path, self.one_of(near))

    def near_pair(self, most=6, changes=2):
        """Two pipelines of one width that are much like each other."""
        while True:
            tree = one = self.pipeline(most).tree
            for _ in range(self.random.randint(1, changes)):
                other = self.changed(tree)
                tree = other if is_tree(other) else tree
            try:
                pair = Pipeline.of(one), Pipeline.of(tree)
            except InvalidPipeline:
                continue
            if pair[0].width == pair[1].width and pair[0].tree != pair[1].tree:
                return pair

    def monitor(self, width, most=7):
        """A monitor for pipelines of this width."""
        while True:
            tree = self.tree(self.random.randint(1, most))
            for path in paths_of(tree):
                if part_at(tree, path)[0] in ("source", "never", "one") and self.random.random() < 0.6:
                    tree = with_part(tree, path, ("told", width))
            if is_tree(tree):
                try:
                    return Monitor.of(tree)
                except InvalidPipeline:
                    pass

    def event(self):
        """A source, a letter and a value."""
        source = self.one_of(LAYOUT)
        return source, self.one_of(LAYOUT[source]), self.random.randint(0, 2)

    def tape(self, most=12):
        time, events = 0, []
        for _ in range(self.random.randint(0, most)):
            time += self.one_of([0, 0, 1, 1, 2, 3, 5])
            events.append((time,) + self.event())
        return Tape(tuple(events), last=time + self.random.randint(0, 8))
