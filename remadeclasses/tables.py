"""Tables: the least table of a script, and whether a table is shut."""

from remadeclasses.bounds import MOST_ENTRIES
from remadeclasses.forms import is_ascending, is_place, is_standing, is_tuple_of
from remadeclasses.growth import Growth, Level, classes_of, covers, levels_of
from remadeclasses.stages import states_of


class Look:
    """One stage of a table that is looked at."""

    def __init__(self, level, rows):
        self.level = level
        self.entries = [((standing,), self.bits_of(places)) for standing, places in rows]
        self.helds = {}
        for standings, held in self.entries:
            self.helds.setdefault(standings, []).append(held)
            # Who is a guest is asked of the table itself.
            level.guests[classes_of(standings)] = None

    def bits_of(self, places):
        """What is held, from the places of the bodies."""
        return sum([self.level.growth.bit_of((place,)) for place in places])

    def lacks(self, standings, held):
        """Whether no entry covers what was come to, with what was held ahead."""
        held = self.level.widened(standings, held)
        return not any([covers(other, held) for other in self.helds.get(standings, [])])

    def lacks_made(self):
        """Whether an entry that a make begins is not covered."""
        births = [outcome for outcome in self.level.births() if outcome.lives_on()]
        return any([self.lacks(outcome.standings, 0) for outcome in births])

    def lacks_become(self, ahead):
        """Whether what an entry of the stage ahead becomes is not covered."""
        return any([self.lacks(self.level.become(standings), held) for standings, held in ahead])

    def lacks_come(self):
        """Whether an entry that one comes on to is not covered."""
        for standings, held in self.entries:
            outcomes = self.level.outcomes_of(standings, held)
            if any([self.lacks(outcome.standings, held) for outcome in outcomes]):
                return True
        return False


def table_of(script):
    """The least table."""
    return tuple([told_level(level) for level in levels_of(script)])


def told_level(level):
    """The entries of one stage."""
    rows = []
    for entry in level.top_entries():
        places = sorted([one[0] for one in level.growth.places_in(entry.held)])
        rows.append((entry.standings[0], tuple(places)))
    return tuple(sorted(rows))


def shut_error(script, value):
    """None if any value is a shut table of the script, otherwise (stage, why)."""
    states = states_of(script)
    if not is_table(value, states):
        return -1, "table"
    growth = Growth(script, MOST_ENTRIES, True)
    ahead = []
    for stage, rows in enumerate(value):
        look = Look(Level(growth, stage, (states[stage],)), rows)
        if look.lacks_made():
            return stage, "make"
        if look.lacks_become(ahead):
            return stage, "become"
        if look.lacks_come():
            return stage, "come"
        ahead = look.entries
    return None


def is_table(value, states):
    """Whether any value has the form of a table."""
    if not is_tuple_of(value, len(states), len(states)):
        return False
    return all([is_rows(rows, state) for rows, state in zip(value, states)])


def is_rows(value, state):
    """Whether any value has the form of a table's entries for one stage."""
    if not isinstance(value, tuple) or not all([is_entry(row, state) for row in value]):
        return False
    return is_ascending(value)


def is_entry(value, state):
    """Whether any value has the form of an entry, by what there is in this stage."""
    if not is_tuple_of(value, 2, 2) or not is_standing(value[0]):
        return False
    standing, places = value
    if (standing[0], standing[1]) not in state.orders or not isinstance(places, tuple):
        return False
    return all([is_held(place, state) for place in places]) and is_ascending(places)


def is_held(value, state):
    """Whether any value is the place of a body that calls run and outsiders may hold."""
    return is_place(value) and value in state.placed and state.placed[value].does
