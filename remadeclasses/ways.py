"""Ways: histories behind which some thing has what an entry tells.

Things do not change one another, so each one's life is told on its own. A life is
a list of entries, each come to from the one ahead of it.
"""

from remadeclasses.growth import Entry


class Life:
    """A thing of a way, while the way is told."""

    def __init__(self, entry):
        self.entries = life_of(entry)
        self.rung = {one.deed[1]: True for one in self.entries if one.deed[0] == "ring"}
        # The numbers of the thing and, by their places, of the bodies held.
        self.thing = None
        self.holds = {}


class Way:
    """A history while it is told."""

    def __init__(self, levels):
        self.levels = levels
        self.deeds = []
        self.things = 0
        self.holds = 0
        # By the stage and the class for which they are guests.
        self.guests = {}

    def invite(self, life):
        """Find lives for all guests of the life, and for their guests."""
        for entry in life.entries:
            guest = entry.deed[3]
            if guest is not None and (entry.stage, guest) not in self.guests:
                other = Life(self.levels[entry.stage].guests[guest])
                # Its own guests come to stages ahead of this one only.
                self.guests[(entry.stage, guest)] = other
                self.invite(other)

    def tell_stage(self, stage, lives):
        """Tell what all do in one stage."""
        if stage > 0:
            self.deeds.append(("next",))
        # A guest must be there ahead of all others' deeds.
        for life in lives:
            for entry in life.entries:
                if entry.stage == stage and entry.deed[0] == "make":
                    self.tell_make(life, entry)
        for life in lives:
            for entry in life.entries:
                if entry.stage == stage:
                    self.tell_deed(life, entry)
                    self.tell_holds(life, entry)

    def tell_make(self, life, entry):
        """Tell the make with which the life begins."""
        _, klass, word, _ = entry.deed
        self.deeds.append(("make", klass[0], klass[1], word))
        life.thing = self.things
        self.things += 1

    def tell_deed(self, life, entry):
        """Tell a deed that is done with the life's thing."""
        way, what, word, klass = entry.deed
        guest = None
        if klass is not None:
            guest = self.guests[(entry.stage, klass)].thing
        if way == "call":
            self.deeds.append(("call", life.thing, what, word, guest))
        elif way == "read":
            self.deeds.append(("read", life.thing, what))
        elif way == "ring":
            self.deeds.append(("ring", life.holds[what], word, guest))
        elif way == "hold":
            self.deeds.append(("hold", life.thing, what))

    def tell_holds(self, life, entry):
        """Hold what is rung later on and can be held now."""
        for n, places in self.levels[entry.stage].holdables(entry.standings):
            if places in life.rung and places not in life.holds:
                self.deeds.append(("hold", life.thing, n))
                life.holds[places] = self.holds
                self.holds += 1


def life_of(entry):
    """The entries through which one comes to this entry, from the make on."""
    entries = []
    while entry is not None:
        entries.append(entry)
        entry = entry.ahead
    return entries[::-1]


def way_by(levels, stage, pair):
    """A history whose last deed, done in the stage, is that of an outcome.

    pair is the entry that the thing comes to ahead, None for a make, and the outcome.
    """
    ahead, outcome = pair
    return way_of(levels, Entry(stage, outcome.standings, 0, ahead, outcome.deed))


def way_of(levels, entry):
    """A history that ends in the entry's stage, with a thing that came to it."""
    way = Way(levels)
    life = Life(entry)
    way.invite(life)
    # The life itself stands last, so that its last deed ends the history.
    lives = list(way.guests.values()) + [life]
    for stage in range(entry.stage + 1):
        way.tell_stage(stage, lives)
    return tuple(way.deeds)
