"""Chains: from pipeline to alike pipeline, step by step."""

from pushalike.base.words import is_between, is_layout
from pushalike.errors import InvalidChain, InvalidLayout, InvalidOperation, InvalidPipeline, UnknownIndex
from pushalike.joint.judges import is_list_paper
from pushalike.joint.papers import find_paper
from pushalike.joint.stands import Pair, plans_of
from pushalike.joint.turns import turned_paper
from pushalike.tree.forms import is_closed, with_part
from pushalike.tree.pipelines import Pipeline, is_pipeline_tree
from pushalike.use.parts import lifted, needless, replace_part


class Chain:
    """A chain of steps from a pipeline to one that is alike; it never changes."""

    def __init__(self, layout, pipeline):
        if not is_layout(layout):
            raise InvalidLayout("this is no layout")
        if not isinstance(pipeline, Pipeline):
            raise InvalidPipeline("this is no pipeline")
        if not all([source in layout for source in pipeline.sources]):
            raise InvalidOperation("a source is not in the layout")
        self._layout = {name: layout[name] for name in sorted(layout)}
        self._pipelines = (pipeline,)
        self._steps = ()

    @classmethod
    def of(cls, layout, pipeline, steps):
        """The chain with these steps."""
        chain = cls(layout, pipeline)
        if not isinstance(steps, tuple):
            raise InvalidChain("this is no tuple")
        pipelines = [pipeline]
        for step in steps:
            pipelines.append(after_step(layout, pipelines[-1], step))
        chain._pipelines = tuple(pipelines)
        chain._steps = steps
        return chain

    @property
    def layout(self):
        """The layout."""
        return {name: self._layout[name] for name in self._layout}

    @property
    def start(self):
        """The pipeline with which it begins."""
        return self._pipelines[0]

    @property
    def goal(self):
        """The pipeline to which it leads."""
        return self._pipelines[-1]

    @property
    def steps(self):
        """The steps."""
        return self._steps

    def __len__(self):
        return len(self._steps)

    def __getitem__(self, k):
        if not is_between(k, 0, len(self._steps)):
            raise UnknownIndex(k)
        return self._pipelines[k]

    def __iter__(self):
        raise TypeError("a chain cannot be iterated over")

    def __eq__(self, other):
        if not isinstance(other, Chain):
            return False
        return self._layout == other._layout and self.start == other.start and self._steps == other._steps

    def __str__(self):
        return f"chain of {len(self._steps)} steps from {len(self.start)} to {len(self.goal)} parts"

    def __add__(self, other):
        if not isinstance(other, Chain) or self._layout != other._layout or self.goal != other.start:
            raise InvalidOperation("this chain does not go on from here")
        chain = Chain(self._layout, self.start)
        chain._pipelines = self._pipelines + other._pipelines[1:]
        chain._steps = self._steps + other._steps
        return chain

    def step(self, path, other, *, limit=500):
        """The chain with one step more, which puts another pipeline in the place of a part."""
        after = replace_part(self.goal, path, other, self._layout, limit=limit)
        pair = Pair(Pipeline.of(self.goal.part(path)), other, self._layout)
        step = (path, other.tree, find_paper(pair, limit=limit))
        chain = Chain(self._layout, self.start)
        chain._pipelines = self._pipelines + (after,)
        chain._steps = self._steps + (step,)
        return chain

    def back(self):
        """The chain from the goal to the start."""
        steps = []
        for before, (path, tree, paper) in zip(self._pipelines, self._steps):
            part = before.part(path)
            pair = Pair(Pipeline.of(part), Pipeline.of(tree), self._layout)
            steps.append((path, part, turned_paper(plans_of(pair), paper)))
        chain = Chain(self._layout, self.goal)
        chain._pipelines = self._pipelines[::-1]
        chain._steps = tuple(steps[::-1])
        return chain


def after_step(layout, pipeline, step):
    """The pipeline to which a step leads from this one; the error for what is no step."""
    if not isinstance(step, tuple) or len(step) != 3:
        raise InvalidChain("this is no step")
    path, tree, paper = step
    if path not in pipeline or not is_closed(pipeline.part(path)) or not is_pipeline_tree(tree):
        raise InvalidChain("there is no such part, or this is the tree of no pipeline")
    part, other = Pipeline.of(pipeline.part(path)), Pipeline.of(tree)
    if part.width != other.width or not all([source in layout for source in other.sources]):
        raise InvalidChain("the part and the other pipeline cannot be compared")
    if not is_list_paper(Pair(part, other, layout), paper, None):
        raise InvalidChain("the paper does not show that they are alike")
    after = with_part(pipeline.tree, path, tree)
    if not is_pipeline_tree(after):
        raise InvalidChain("no pipeline would be left")
    return Pipeline.of(after)


def trim(pipeline, layout, *, limit=500):
    """A chain of steps, each of which lifts a needless part, to a pipeline without any."""
    paths = needless(pipeline, layout, limit=limit)
    chain = Chain(layout, pipeline)
    while len(paths) > 0:
        chain = chain.step((), lifted(chain.goal, paths[0]), limit=limit)
        paths = needless(chain.goal, layout, limit=limit)
    return chain
