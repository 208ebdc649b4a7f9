"""Papers turned round, for the same pipelines in the other order."""

from pushalike.joint.rows import moved_rows
from pushalike.joint.ways import classes_of
from pushalike.run.shapes import needs_of


def turned_stand(plans, stand):
    """The joint stand that has the same pairs of states, turned round."""
    shape, other, classes, rows = stand
    many, clocks = needs_of(plans[0], shape)
    places = tuple(range(1, len(rows)))
    first, second = places[:len(clocks)], places[len(clocks):]
    return other, shape, classes_of(classes[many:] + classes[:many]), moved_rows(rows, second + first)


def turned_stands(plans, stands):
    """The joint stands turned round, ascending by their texts."""
    found = {}
    for stand in stands:
        other = turned_stand(plans, stand)
        found[repr(other)] = other
    return tuple([found[text] for text in sorted(found)])


def turned_paper(plans, paper):
    """The paper turned round."""
    if paper[0] == "list":
        return "list", turned_stands(plans, paper[1])
    return paper[:3] + (tuple([turned_stands(plans, stands) for stands in paper[3]]),)
