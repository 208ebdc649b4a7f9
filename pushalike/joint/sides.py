"""Two plans side by side, cause by cause, for callers that have checked what they pass.

`plans` is the pair of the plans everywhere. The second one hears the list that the first one tells; of all leaves the
leaves told of a monitor alone notice this, so for two pipelines it changes nothing.
"""

from pushalike.run.steps import begun, heard


def begun_sides(plans):
    """The two states after the begin, and three lists: the begin lists, and what the second tells of the first one."""
    state, told = begun(plans[0])
    other, others = begun(plans[1])
    # All clocks have just begun, so what stands for them is 0 in any case.
    other, more = heard(plans[1], other, None, (), told)
    return (state, other), (told, others, more)


def heard_sides(plans, states, event, due):
    """The two states after a cause, and the two lists; states have the places of clocks in the place of readings.

    `event` is `(source, letter, value)`, or None at a moment, and `due` are the places of the clocks that are due. A
    clock of the one state has another place than each of the other state.
    """
    state, told = heard(plans[0], states[0], event, due)
    other, others = heard(plans[1], states[1], event, due, told)
    return (state, other), (told, others)
