"""How parts are begun, and what they do at a cause.

A part that is not over is a node here, a tuple of four: the operator's own items of the shape, the values and the
clocks that it keeps itself, and the nodes of its parts. A part that is over is None. Values are only told apart, so
they may as well be classes. A clock is any number above 0 by which the caller knows it, and 0 if it has just begun.
A cause is a triple: `(source, letter, value)`, or None if it is no event, the clocks that are due, and the outputs of
the pipeline beside a monitor, which the leaves told tell.
"""

from pushalike.run.doubles import hear_double
from pushalike.run.singles import hear_single
from pushalike.tree.forms import COPYING

# What an operator keeps itself when it begins: its own items of the shape.
OWN_AT_BEGIN = {
    "fold": (0,),
    "changes": (0,),
    "pairs": (0,),
    "spaced": (0,),
    "quiet": (None,),
    "late": ((),),
    "&": (0, 0),
    "at": (None,),
}


def begin_part(plan, it):
    """The node of a part that is begun, and the outputs of its begin list.

    `it` is the output for which ("it",) stands, or None where there is none.
    """
    word = plan.word
    if len(plan.parts) == 0:
        return begin_leaf(plan, it)
    if word in COPYING:
        part, outputs = begin_part(plan.parts[0], it)
        output, copy, told = begin_copies(plan, outputs)
        return copying_node(plan, part, output, copy), told
    if word in ("again", "then", "else"):
        part, outputs = begin_part(plan.parts[0], it)
        if word == "else":
            return waiting_node(part, (0,)), outputs
        return ending_node(plan, part, outputs, it)
    own = plan.terms if word == "first" else OWN_AT_BEGIN.get(word, ())
    return hear_lists(plan, (own, (), ()), [begin_part(part, it) for part in plan.parts], ())


def begin_leaf(plan, it):
    """As `begin_part`, of a leaf."""
    word = plan.word
    if word == "it":
        return None, (it,)
    if word == "one":
        return None, ((plan.terms[0], ()),)
    return ((), (), (0,) if word in ("after", "every") else (), ()), ()


def hear_part(plan, node, cause, it):
    """The node of a part after a cause, and the outputs that it tells there."""
    if node is None:
        return None, ()
    if len(plan.parts) == 0:
        return hear_leaf(plan, node, cause)
    if plan.word in COPYING:
        return hear_copies(plan, node, cause, it)
    if plan.word in ("again", "then", "else"):
        return hear_followed(plan, node, cause, it)
    results = [hear_part(part, inner, cause, it) for part, inner in zip(plan.parts, node[3])]
    return hear_lists(plan, node[:3], results, cause[1])


def hear_leaf(plan, node, cause):
    """As `hear_part`, of a leaf."""
    event, due, outputs = cause
    if plan.word == "told":
        return node, outputs
    if plan.word == "source":
        if event is None or event[0] != plan.terms[0]:
            return node, ()
        return node, ((event[1], (event[2],)),)
    if plan.word == "never" or node[2][0] not in due:
        return node, ()
    told = ((plan.terms[1], ()),)
    return (None if plan.word == "after" else ((), (), (0,), ())), told


def hear_lists(plan, kept, results, due):
    """The node and the outputs of an operator whose parts are all begun with it.

    `kept` is what it keeps itself, and `results` has the node and the outputs of each part.
    """
    nodes = tuple([node for node, _ in results])
    lists = [outputs for _, outputs in results]
    over = [node is None for node in nodes]
    if len(nodes) == 1:
        kept, told = hear_single(plan, kept, lists[0], over[0], due)
    else:
        kept, told = hear_double(plan, kept, lists, over)
    return (None if kept is None else kept + (nodes,)), told


def hear_followed(plan, node, cause, it):
    """As `hear_part`, of an operator that follows one part after another."""
    own, _, clocks, (inner,) = node
    if own == (2,):
        part, outputs = hear_part(plan.parts[1], inner, cause, it)
        return second_node(part), outputs
    if plan.word == "else" and clocks[0] in cause[1]:
        part, outputs = begin_part(plan.parts[1], it)
        return second_node(part), outputs
    part, outputs = hear_part(plan.parts[0], inner, cause, it)
    if plan.word == "else":
        return waiting_node(part, (0,) if len(outputs) > 0 else clocks), outputs
    return ending_node(plan, part, outputs, it)


def waiting_node(part, clocks):
    """The node of an else that follows its first part."""
    return None if part is None else ((1,), (), clocks, (part,))


def ending_node(plan, part, outputs, it):
    """The node and the outputs of an again or a then that follows its first part, which may have ended."""
    own = () if plan.word == "again" else (1,)
    if part is not None:
        return (own, (), (), (part,)), outputs
    part, more = begin_part(plan.parts[-1], it)
    if plan.word == "again":
        return (own, (), (), (part,)), outputs + more
    return second_node(part), outputs + more


def second_node(part):
    """The node of a then or an else that follows its second part."""
    return None if part is None else ((2,), (), (), (part,))


def hear_copies(plan, node, cause, it):
    """As `hear_part`, of a switch or a busy."""
    own, values, _, nodes = node
    part, outputs = hear_part(plan.parts[0], nodes[0], cause, it)
    running = len(nodes) == 2
    if running and (plan.word == "busy" or len(outputs) == 0):
        output = (own[0], values)
        copy, told = hear_part(plan.parts[1], nodes[1], cause, output)
    else:
        output, copy, told = begin_copies(plan, outputs)
    return copying_node(plan, part, output, copy), told


def begin_copies(plan, outputs):
    """What these outputs of its part begin in a switch or a busy in which no copy goes on.

    The output that began the copy that is running then, the node of this copy, or None, and what all copies tell.
    """
    begun, copy, told = None, None, ()
    for output in outputs:
        if plan.word == "switch" or copy is None:
            begun = output
            copy, outputs_of_copy = begin_part(plan.parts[1], output)
            told = told + outputs_of_copy
    return begun, copy, told


def copying_node(plan, part, output, copy):
    """The node of a switch or a busy with a copy that this output began, or without one."""
    if copy is None:
        return None if part is None else ((), (), (), (part,))
    letter, values = output if plan.copies_it else (None, ())
    return ((letter,), values, (), (part, copy))
