"""Standings: what things can be behind all histories."""

from remadeclasses.classes import check_stage
from remadeclasses.forms import is_standing
from remadeclasses.growth import levels_of
from remadeclasses.ways import way_of


def can_stand(script, stage, standing):
    """Whether some thing can have this standing, any value, in the stage."""
    check_stage(script, stage)
    levels = levels_of(script)
    return is_standing(standing) and (standing,) in levels[stage].tops


def standings(script, stage):
    """All standings that things can have in the stage."""
    check_stage(script, stage)
    levels = levels_of(script)
    return tuple(sorted([one[0] for one in levels[stage].tops]))


def way_to(script, stage, standing):
    """A history that ends in the stage with a thing of this standing, or None."""
    check_stage(script, stage)
    levels = levels_of(script)
    if not is_standing(standing):
        return None
    for entry in levels[stage].entries:
        if entry.standings == (standing,):
            return way_of(levels, entry)
    return None
