"""Carrying things over: more steps for a script, and the fewest that make it safe."""

from remadeclasses.errors import BadScript
from remadeclasses.faults import is_safe
from remadeclasses.forms import is_number_below, is_tuple_of
from remadeclasses.scripts import check_script


def with_steps(script, steps):
    """The script with each step of the pairs (stage, step) put behind those of its stage."""
    words, offers, stages = script
    if not is_steps(steps, len(stages)):
        raise BadScript((), "steps")
    rows = list(stages)
    for stage, step in steps:
        rows[stage] = rows[stage] + (step,)
    longer = (words, offers, tuple(rows))
    check_script(longer)
    return longer


def is_steps(value, many):
    """Whether any value is a tuple of pairs of the number of a stage and a step."""
    if not isinstance(value, tuple):
        return False
    return all([is_tuple_of(pair, 2, 2) and is_number_below(pair[0], many) for pair in value])


def fewest(script, steps):
    """The numbers of the fewest of the steps with which the script is safe, or None."""
    with_steps(script, steps)
    told = None
    # All choices are looked at: any of them may be too much to look at.
    for numbers in choices(len(steps)):
        safe = is_safe(with_steps(script, tuple([steps[number] for number in numbers])))
        if safe and told is None:
            told = numbers
    return told


def choices(many):
    """All ascending tuples of numbers below many: the short ones ahead, then by order."""
    told = []
    for bits in range(1 << many):
        numbers = tuple([number for number in range(many) if bits >> number & 1 == 1])
        told.append((len(numbers), numbers))
    return [numbers for _, numbers in sorted(told)]
