"""Scripts: what is wrong with a value that is none, and where bodies stand.

Each function that looks for a fault tells None or a pair (place, why). It gets
the place at which what it looks at stands.
"""

from remadeclasses.bounds import MOST_NEST, MOST_PARTS, MOST_ROWS, MOST_STAGES, MOST_STEPS
from remadeclasses.errors import BadScript
from remadeclasses.forms import is_offers, is_part, is_row, is_step, is_tuple_of, is_words


def script_error(value):
    """None if it is a script, otherwise (place, why) for what is wrong first."""
    if not is_tuple_of(value, 3, 3):
        return (), "script"
    words, offers, stages = value
    if not is_words(words):
        return (0,), "words"
    if not is_offers(offers):
        return (1,), "offers"
    return stages_error(stages, (2,))


def check_script(value):
    """Refuse any value that is no script."""
    wrong = script_error(value)
    if wrong is not None:
        place, why = wrong
        raise BadScript(place, why)


def stages_error(stages, place):
    """What is wrong first with the stages of a script."""
    if not is_tuple_of(stages, 1, MOST_STAGES):
        return place, "stages"
    for k, stage in enumerate(stages):
        wrong = stage_error(stage, place + (k,))
        if wrong is not None:
            return wrong
    return None


def stage_error(stage, place):
    """What is wrong first with one stage."""
    if not is_tuple_of(stage, 0, MOST_STEPS):
        return place, "stage"
    for s, step in enumerate(stage):
        wrong = step_error(step, place + (s,))
        if wrong is not None:
            return wrong
    return None


def step_error(step, place):
    """What is wrong first with one step."""
    if not is_step(step):
        return place, "step"
    if step[0] == "class":
        return parts_error(step[3], place + (3,))
    if step[0] == "part":
        return part_error(step[2], place + (2,), "", False)
    return None


def parts_error(parts, place):
    """What is wrong first with the parts of a class."""
    if not is_tuple_of(parts, 0, MOST_PARTS):
        return place, "parts"
    ahead = ""
    for p, part in enumerate(parts):
        wrong = part_error(part, place + (p,), ahead, True)
        if wrong is not None:
            return wrong
        ahead = part[0]
    return None


def part_error(part, place, ahead, may_up):
    """What is wrong first with one part.

    ahead is the word of the part ahead, or the empty text, which is below all
    words; may_up is whether a target ("up", n) may stand in the body.
    """
    if not is_part(part) or part[0] <= ahead:
        return place, "part"
    if part[1] == "value":
        return None
    return body_error(part[2], place + (2,), 0, may_up)


def body_error(body, place, nest, may_up):
    """What is wrong first with a body that lies in so many ifs."""
    if not is_tuple_of(body, 0, MOST_ROWS):
        return place, "body"
    for r, row in enumerate(body):
        wrong = row_error(row, place + (r,), nest, may_up)
        if wrong is not None:
            return wrong
    return None


def row_error(row, place, nest, may_up):
    """What is wrong first with one row of a body that lies in so many ifs."""
    if not is_row(row):
        return place, "row"
    if row[0] == "if":
        return if_error(row, place, nest, may_up)
    if not may_up and goes_up(row):
        return place, "up"
    return None


def if_error(row, place, nest, may_up):
    """What is wrong first with a row that has the form of an if."""
    if nest == MOST_NEST:
        return place, "deep"
    wrong = body_error(row[2], place + (2,), nest + 1, may_up)
    if wrong is not None:
        return wrong
    return body_error(row[3], place + (3,), nest + 1, may_up)


def goes_up(row):
    """Whether the row calls a target ("up", n)."""
    return row[0] in ("do", "give") and row[1][0] == "up"


def bodies(script):
    """The ascending tuple of the places (stage, step, part) of all bodies of parts."""
    places = []
    for k, stage in enumerate(script[2]):
        for s, step in enumerate(stage):
            for p, part in enumerate(parts_in(step)):
                if part[1] != "value":
                    places.append((k, s, p))
    return tuple(places)


def parts_in(step):
    """The parts that stand in a step."""
    if step[0] == "class":
        return step[3]
    if step[0] == "part":
        return (step[2],)
    return ()
