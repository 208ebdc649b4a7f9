"""What operators over one part do.

What an operator keeps itself is a triple, like a state: its own items of the shape, the values, and the clocks.
Each function is passed the plan, this triple, the outputs of the part, and perhaps which clocks are due. It returns
the new triple and the outputs that the operator tells.
"""


def hear_single(plan, kept, outputs, over, due):
    """The new triple, None if the operator is over, and its outputs; `over` tells whether the part is."""
    word = plan.word
    if word == "quiet":
        kept, told = hear_quiet(kept, outputs, due)
        return (None, told + latest(kept)) if over else (kept, told)
    if word == "late":
        kept, told = hear_late(plan, kept, outputs, due)
        return (None if over and kept[0] == ((),) else kept), told
    if word == "first":
        kept, told = hear_first(kept, outputs)
        return (None if over or kept[0] == (0,) else kept), told
    if word == "spaced":
        kept, told = hear_spaced(kept, outputs, due)
    elif word == "fold":
        kept, told = hear_fold(plan, kept, outputs)
    elif word == "changes":
        kept, told = hear_changes(kept, outputs)
    elif word == "pairs":
        kept, told = hear_pairs(kept, outputs)
    else:
        told = pick_outputs(plan, outputs) if word == "pick" else only_outputs(plan, outputs)
    return (None if over else kept), told


def only_outputs(plan, outputs):
    """The outputs with one of the letters."""
    return tuple([output for output in outputs if output[0] in plan.terms[0]])


def pick_outputs(plan, outputs):
    """The outputs with the values at the places."""
    places = plan.terms[0]
    return tuple([(letter, tuple([values[place] for place in places])) for letter, values in outputs])


def hear_fold(plan, kept, outputs):
    """The state follows the table, and so do the letters."""
    steps = dict(plan.terms[0])
    state = kept[0][0]
    told = []
    for letter, values in outputs:
        if (state, letter) in steps:
            state, other = steps[(state, letter)]
            if other != "":
                told.append((other, values))
    return ((state,), (), ()), tuple(told)


def hear_first(kept, outputs):
    """As many outputs as were still to come."""
    told = outputs[:kept[0][0]]
    return ((kept[0][0] - len(told),), (), ()), told


def hear_changes(kept, outputs):
    """The outputs whose values differ from those just before."""
    (known,), before, _ = kept
    told = []
    for letter, values in outputs:
        if known == 0 or values != before:
            told.append((letter, values))
        known, before = 1, values
    return ((known,), before, ()), tuple(told)


def hear_pairs(kept, outputs):
    """The outputs behind the values just before."""
    (known,), before, _ = kept
    told = []
    for letter, values in outputs:
        if known == 1:
            told.append((letter, before + values))
        known, before = 1, values
    return ((known,), before, ()), tuple(told)


def latest(kept):
    """The one output that a quiet or an at keeps, in a tuple, which is empty without one."""
    (letter,), values, _ = kept
    return () if letter is None else ((letter, values),)


def hear_quiet(kept, outputs, due):
    """The kept output if its clock is due; then the last of the outputs is kept, and its clock begins."""
    told = ()
    if len(kept[2]) > 0 and kept[2][0] in due:
        told = latest(kept)
        kept = ((None,), (), ())
    if len(outputs) > 0:
        letter, values = outputs[-1]
        kept = ((letter,), values, (0,))
    return kept, told


def hear_spaced(kept, outputs, due):
    """The first of the outputs, if the clock is not running; then it begins."""
    clocks = tuple([clock for clock in kept[2] if clock not in due])
    if len(clocks) > 0 or len(outputs) == 0:
        return ((len(clocks),), (), clocks), ()
    return ((1,), (), (0,)), outputs[:1]


def hear_late(plan, kept, outputs, due):
    """The outputs whose clocks are due; then those for which there is room are on the way."""
    wide = plan.wide
    told = []
    waiting = []
    for index, clock in enumerate(kept[2]):
        output = (kept[0][0][index], kept[1][index * wide:(index + 1) * wide])
        if clock in due:
            told.append(output)
        else:
            waiting.append((output, clock))
    for output in outputs:
        if len(waiting) < plan.terms[1]:
            waiting.append((output, 0))
    letters = tuple([output[0] for output, _ in waiting])
    values = tuple([value for output, _ in waiting for value in output[1]])
    return ((letters,), values, tuple([clock for _, clock in waiting])), tuple(told)
