"""Comparing two scripts: whether outsiders can tell them apart."""

from remadeclasses.bounds import MOST_PAIRS
from remadeclasses.errors import Unlike
from remadeclasses.growth import Growth, Level, levels_of
from remadeclasses.stages import states_of
from remadeclasses.ways import way_by


def alike(one, other):
    """None, or a history of which only the last answer is unlike in both scripts."""
    if one[:2] != other[:2] or len(one[2]) != len(other[2]):
        raise Unlike(-1)
    sides = list(zip(states_of(one), states_of(other)))
    for stage, (state, another) in enumerate(sides):
        if state.seen != another.seen:
            raise Unlike(stage)
    # Either of them may be too much to look at alone.
    levels_of(one)
    levels_of(other)
    levels = levels_of_both(one, sides)
    if len(levels) < len(sides):
        return (("next",),) * len(levels)
    return unlike_way(levels)


def levels_of_both(script, sides):
    """What things can come to as long as all answers are the same: a list of levels.

    It ends ahead of the stage whose next tells them apart. script is either one.
    """
    growth = Growth(script, MOST_PAIRS, True)
    levels = []
    ahead = None
    for stage, (state, another) in enumerate(sides):
        # Nobody is told how many steps of stage 0 were run.
        if stage > 0 and state.ran != another.ran:
            break
        level = Level(growth, stage, (state, another))
        level.grow(ahead)
        levels.append(level)
        ahead = level
    return levels


def unlike_way(levels):
    """A history whose last deed tells the sides apart, None if no deed does."""
    for level in levels:
        for pair in level.all_outcomes():
            if not pair[1].agrees():
                return way_by(levels, level.stage, pair)
    return None
