"""What operators over two parts do that are begun together.

What an operator keeps itself is a triple, like a state: its own items of the shape, the values, and the clocks.
"""

from pushalike.run.singles import latest


def hear_double(plan, kept, lists, over):
    """The new triple, None if the operator is over, and its outputs.

    `lists` are the outputs of both parts, and `over` tells of each whether it is over.
    """
    word = plan.word
    if word == "at":
        kept, told = hear_at(kept, lists[0], lists[1])
        return (None if over[1] else kept), told
    if word == "until":
        return (None if over[0] or len(lists[1]) > 0 else kept), lists[0]
    if word == "&":
        kept, told = hear_both(plan, kept, lists)
    else:
        told = lists[0] + lists[1]
    return (None if over[0] and over[1] else kept), told


def hear_at(kept, outputs, others):
    """The kept output at the first of the others, after which none is kept."""
    if len(outputs) > 0:
        letter, values = outputs[-1]
        kept = ((letter,), values, ())
    if len(others) == 0:
        return kept, ()
    return ((None,), (), ()), latest(kept)


def hear_both(plan, kept, lists):
    """Each output with the latest values of both parts, as soon as there are both."""
    (one, other), values, _ = kept
    wide = plan.parts[0].wide * one
    first, second = values[:wide], values[wide:]
    told = []
    for letter, latter in lists[0]:
        one, first = 1, latter
        if other == 1:
            told.append((letter, first + second))
    for letter, latter in lists[1]:
        other, second = 1, latter
        if one == 1:
            told.append((letter, first + second))
    return ((one, other), first + second, ()), tuple(told)
