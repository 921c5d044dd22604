"""script_error: a full script in which one thing was changed (points 2 and 5)."""

import itertools

from samples import RICH, ScriptCase, at_place, inner_places, put_at


def body_reasons(body, place, found):
    """Puts into found what is told at the places within a body."""
    found[place] = "body"
    for r, row in enumerate(body):
        found[place + (r,)] = "row"
        if row[0] == "if":
            body_reasons(row[2], place + (r, 2), found)
            body_reasons(row[3], place + (r, 3), found)


def part_reasons(part, place, found):
    """Puts into found what is told at the places within a part."""
    found[place] = "part"
    if part[1] != "value":
        body_reasons(part[2], place + (2,), found)


def reasons(script):
    """A dict of what is told at each place at which something can be wrong."""
    found = {(): "script", (0,): "words", (1,): "offers", (2,): "stages"}
    for k, stage in enumerate(script[2]):
        found[(2, k)] = "stage"
        for s, step in enumerate(stage):
            found[(2, k, s)] = "step"
            if step[0] == "class":
                found[(2, k, s, 3)] = "parts"
                for p, part in enumerate(step[3]):
                    part_reasons(part, (2, k, s, 3, p), found)
            if step[0] == "part":
                part_reasons(step[2], (2, k, s, 2), found)
    return found


REASONS = reasons(RICH)


def told_for(place):
    """What is told if something that can nowhere stand is at this place."""
    while place not in REASONS:
        place = place[:-1]
    return place, REASONS[place]


class Changed(ScriptCase):
    def test_what_can_nowhere_stand(self):
        for place in inner_places(RICH):
            for value in (None, True, False, 0, 7, [], {}, "", "Ab", "abcdefghi", {"a": "b"}):
                self.check(put_at(RICH, place, value), told_for(place))

    def test_lists_for_tuples(self):
        for place in inner_places(RICH):
            value = at_place(RICH, place)
            if isinstance(value, tuple):
                self.check(put_at(RICH, place, list(value)), told_for(place))

    def test_lists_for_texts(self):
        for place in inner_places(RICH):
            value = at_place(RICH, place)
            if isinstance(value, str):
                self.check(put_at(RICH, place, [value]), told_for(place))
                self.check(put_at(RICH, place, (value,)), told_for(place))

    def test_one_more_than_may_be(self):
        full = {"words": 2, "offers": 8, "stages": 3, "stage": 4, "parts": 4, "body": 4}
        reached = set()
        for place, why in REASONS.items():
            value = at_place(RICH, place)
            if len(value) == full.get(why):
                reached.add(why)
                self.check(put_at(RICH, place, value + value[-1:]), (place, why))
        self.assertEqual(reached, set(full))

    def test_longer_or_shorter_rows_steps_and_parts(self):
        for place, why in REASONS.items():
            if why in ("script", "step", "part", "row"):
                value = at_place(RICH, place)
                self.check(put_at(RICH, place, value + ((),)), (place, why))
                self.check(put_at(RICH, place, value[:-1]), (place, why))
                self.check(put_at(RICH, place, ()), (place, why))

    def test_of_two_changes_the_first_is_told(self):
        for place, other in itertools.combinations(sorted(REASONS), 2):
            if other[:len(place)] != place:
                value = put_at(put_at(RICH, other, None), place, None)
                self.check(value, (place, REASONS[place]))

    def test_a_change_goes_ahead_of_what_is_wrong_within(self):
        for place in REASONS:
            if REASONS[place] in ("script", "stages", "stage", "parts", "body"):
                self.check(put_at(RICH, place, (None,) * 5), (place, REASONS[place]))
                self.check(put_at(RICH, place, [None]), (place, REASONS[place]))
