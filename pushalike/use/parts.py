"""Parts of pipelines: which are needless, and how others take their place, also while a pipeline is running."""

from pushalike.base.words import is_layout
from pushalike.errors import (
    InvalidLayout,
    InvalidOperation,
    InvalidPaper,
    InvalidPipeline,
    InvalidState,
    UnknownIndex,
)
from pushalike.joint.judges import is_list_paper
from pushalike.joint.looks import check_limit
from pushalike.joint.monitors import Watch
from pushalike.joint.papers import are_alike
from pushalike.joint.rows import cut_rows
from pushalike.joint.stands import Pair, plans_of
from pushalike.joint.ways import classes_of
from pushalike.run.live import Live, take_exchange
from pushalike.run.readings import run_over
from pushalike.run.shapes import is_state_of
from pushalike.tree.forms import is_closed, with_part
from pushalike.tree.pipelines import Pipeline, is_pipeline_tree, plan_of


def closed_paths(pipeline):
    """The paths of all closed parts, in the order of `paths`."""
    check_pipeline(pipeline)
    for path in pipeline.paths():
        if is_closed(pipeline.part(path)):
            yield path


def lifted(pipeline, path):
    """The pipeline in which this part stands in the place of the operator around it."""
    check_pipeline(pipeline)
    check_path(pipeline, path)
    if len(path) == 0:
        raise InvalidOperation("there is no operator around the whole")
    return Pipeline.of(lifted_tree(pipeline, path))


def lifted_tree(pipeline, path):
    """The tree in which the part at the path stands in the place of the operator around it."""
    return with_part(pipeline.tree, path[:-1], pipeline.part(path))


def replace_part(pipeline, path, other, layout, *, limit=500):
    """The pipeline with another one in the place of the part at the path, which must be alike."""
    check_pipeline(pipeline)
    check_path(pipeline, path)
    check_pipeline(other)
    check_layout(layout)
    check_limit(limit)
    part = closed_part(pipeline, path)
    if not are_alike(part, other, layout, limit=limit):
        raise InvalidOperation("the part and the other pipeline are not alike")
    return pipeline.replaced(path, other.tree)


def closed_part(pipeline, path):
    """The part at the path as a pipeline by itself."""
    part = pipeline.part(path)
    if not is_closed(part):
        raise InvalidOperation("the part is not closed")
    return Pipeline.of(part)


def needless(pipeline, layout, *, limit=500):
    """The paths for which `lifted` is alike the whole, ascending."""
    check_pipeline(pipeline)
    check_layout(layout)
    check_limit(limit)
    if not all([source in layout for source in pipeline.sources]):
        raise InvalidOperation("a source is not in the layout")
    found = []
    for path in pipeline.paths():
        if len(path) > 0 and is_needless(pipeline, path, layout, limit):
            found.append(path)
    return tuple(sorted(found))


def is_needless(pipeline, path, layout, limit):
    """Whether `lifted` is a pipeline of the same width that is alike the whole."""
    tree = lifted_tree(pipeline, path)
    if not is_pipeline_tree(tree):
        return False
    other = Pipeline.of(tree)
    return other.width == pipeline.width and are_alike(pipeline, other, layout, limit=limit)


def hand_over(pair, paper, state):
    """A state of the second pipeline in which it tells the same from now on as the first one in this state."""
    if not isinstance(pair, Pair) or isinstance(pair, Watch):
        raise InvalidOperation("this is no pair of pipelines")
    if not is_list_paper(pair, paper, None):
        raise InvalidPaper("this is no list paper of the pair")
    if not is_state_of(plans_of(pair)[0], state):
        raise InvalidState("this is no state of the pipeline")
    for stand in paper[1]:
        found = state_beside(stand, state)
        if found is not None:
            return found
    raise InvalidOperation("no joint stand of the paper has this state")


def state_beside(stand, state):
    """A state of the second pipeline that the joint stand has together with this one of the first, or None."""
    shape, values, readings = state
    many = len(values)
    if stand[0] != shape or stand[2][:many] != classes_of(values):
        return None
    rows = stand[3]
    for index, reading in enumerate(readings, 1):
        # Exactly this reading: at most, and at least.
        for row, column, most in ((index, 0, reading), (0, index, -reading)):
            rows = cut_rows(rows, row, column, most)
            if rows is None:
                return None
    # The least readings of all clocks occur together.
    others = tuple([-most for most in rows[0][len(readings) + 1:]])
    return stand[1], values_for(stand[2], values), others


def values_for(classes, values):
    """Values with the last ones of these classes, of which the first ones belong to these values."""
    known = {number: value for number, value in zip(classes, values)}
    given = {value: True for value in values}
    value = 0
    for number in classes:
        if number not in known:
            while value in given:
                value += 1
            known[number] = value
            given[value] = True
    return tuple([known[number] for number in classes[len(values):]])


def exchange(live, path, other, layout, *, limit=500):
    """Replaces a part of a pipeline while it is running."""
    if not isinstance(live, Live):
        raise InvalidOperation("this is no running pipeline")
    pipeline = replace_part(live.pipeline, path, other, layout, limit=limit)
    tape = live.tape
    if not tape.fits(layout):
        raise InvalidOperation("the tape does not fit the layout")
    state, _ = run_over(plan_of(pipeline), tape)
    take_exchange(live, pipeline, state)


def check_pipeline(value):
    """Raises the error for what is no pipeline."""
    if not isinstance(value, Pipeline):
        raise InvalidPipeline("this is no pipeline")


def check_path(pipeline, path):
    """Raises the error for what is no path of the pipeline."""
    if path not in pipeline:
        raise UnknownIndex(path)


def check_layout(value):
    """Raises the error for what is no layout."""
    if not is_layout(value):
        raise InvalidLayout("this is no layout")
