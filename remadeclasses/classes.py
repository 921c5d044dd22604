"""Classes: what stands behind a stage."""

from remadeclasses.errors import NoSuch
from remadeclasses.forms import is_number_below, is_whole
from remadeclasses.stages import states_of


def made(script, stage):
    """The bound names, all classes with their orders, and how many steps were run."""
    state = state_behind(script, stage)
    names = tuple(sorted(state.names.items()))
    classes = tuple(sorted(state.orders.items()))
    return names, classes, state.ran


def parts_of(script, stage, c, number):
    """The parts that a class itself has behind a stage."""
    state = state_behind(script, stage)
    if not isinstance(c, str) or not is_whole(number) or (c, number) not in state.parts:
        raise NoSuch((c, number))
    parts = state.parts[(c, number)]
    return tuple([parts[n].row for n in sorted(parts)])


def state_behind(script, stage):
    """What stands behind a stage, any value."""
    check_stage(script, stage)
    return states_of(script)[stage]


def check_stage(script, stage):
    """Refuse any value that is not the number of a stage."""
    if not is_number_below(stage, len(script[2])):
        raise NoSuch(stage)
