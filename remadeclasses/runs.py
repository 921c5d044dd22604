"""Runs: which bodies begin to run, and in which stages, over all histories."""

from remadeclasses.forms import is_place, is_whole
from remadeclasses.growth import levels_of
from remadeclasses.ways import way_by


def runs(script):
    """All pairs of a stage and the place of a body that begins to run in it."""
    return tuple(sorted(found_runs(levels_of(script))))


def elder(script):
    """Those of them where the body is no longer one of the class that its name has."""
    levels = levels_of(script)
    found = sorted(found_runs(levels))
    return tuple([(stage, place) for stage, place in found if is_elder(levels[stage].states[0], place)])


def run_way(script, stage, place):
    """A history in whose last deed, done in the stage, the body begins to run, or None.

    stage and place are any values.
    """
    levels = levels_of(script)
    if not is_whole(stage) or not is_place(place):
        return None
    found = found_runs(levels)
    run = (stage, place)
    return way_by(levels, stage, found[run]) if run in found else None


def found_runs(levels):
    """For each run the entry ahead of such a deed, None for a make, and its outcome."""
    found = {}
    for level in levels:
        for ahead, outcome in level.all_outcomes():
            for place in outcome.begun:
                found.setdefault((level.stage, place), (ahead, outcome))
    return found


def is_elder(state, place):
    """Whether a body is no longer part of the class to which the name is bound."""
    part = state.placed[place]
    c, number = part.home
    if state.names.get(c) != number or part.n not in state.parts[part.home]:
        return True
    return state.parts[part.home][part.n].place != place
