"""Faults: the cases in which what outsiders do is a fault, over all histories."""

from remadeclasses.forms import is_case
from remadeclasses.growth import levels_of
from remadeclasses.ways import way_by

# The ways of the offers by which deeds are let by. Rings hang on no offer.
OFFER_WAYS = {"make": "make", "call": "call", "hold": "call", "read": "read"}


def cases(script):
    """All cases that some history has."""
    return tuple(sorted(found_cases(levels_of(script))))


def each_case(script):
    """Yield each case with a history whose last deed is of this case."""
    levels = levels_of(script)
    found = found_cases(levels)
    for case in sorted(found):
        yield (case, way_by(levels, case[0], found[case]))


def case_way(script, case):
    """A history whose last deed is of the case, any value, or None."""
    levels = levels_of(script)
    if not is_case(case):
        return None
    found = found_cases(levels)
    return way_by(levels, case[0], found[case]) if case in found else None


def is_safe(script, *, held=True):
    """Whether there are no cases; held is whether outsiders hold and ring bodies."""
    # Whether there is too much to look at hangs on the bodies held as well.
    levels = levels_of(script)
    if not held:
        levels = levels_of(script, False)
    return len(found_cases(levels)) == 0


def sure(script):
    """The offers that have no case."""
    unsure = [offer_of(case[1]) for case in cases(script)]
    return tuple([offer for offer in script[1] if offer not in unsure])


def found_cases(levels):
    """For each case the entry ahead of such a deed, None for a make, and its outcome."""
    found = {}
    for level in levels:
        for ahead, outcome in level.all_outcomes():
            fault = outcome.fault()
            if fault is not None:
                found.setdefault((level.stage, told_deed(ahead, outcome)) + fault, (ahead, outcome))
    return found


def told_deed(ahead, outcome):
    """The deed of an outcome as a case tells it."""
    way, what, _, _ = outcome.deed
    if way == "make":
        return (way,) + what
    if way == "ring":
        return (way,) + what[0]
    c, number, _ = ahead.standings[0]
    return way, c, number, what


def offer_of(deed):
    """The offer by which a deed of a case is let by, None for a ring."""
    if deed[0] == "ring":
        return None
    n = "born" if deed[0] == "make" else deed[3]
    return deed[1], n, OFFER_WAYS[deed[0]]
