"""The least table of a script: all that a thing can come to, stage by stage.

Two scripts can be looked at side by side, too. So what is told of a thing is a
tuple with an item for each side: its standings, its classes, the places of a body
that is held. All that is held of a thing is a whole number, the sum of the bits of
these bodies: so one look tells whether one entry covers another.
"""

from remadeclasses.bounds import MOST_ENTRIES
from remadeclasses.errors import TooMany
from remadeclasses.running import Run, answer_of
from remadeclasses.stages import moved, states_of


class Growth:
    """What all levels have in common."""

    def __init__(self, script, most, with_holds):
        self.words = script[0]
        self.offers = script[1]
        # How many standings there may be in one stage.
        self.most = most
        self.with_holds = with_holds
        # The bits of the bodies that came up so far, by their places.
        self.bits = {}

    def offered(self, standings, way):
        """The words that are offered in this way for a thing with these standings."""
        # A thing has classes of the same name on all sides.
        return [n for c, n, other in self.offers if c == standings[0][0] and other == way]

    def bit_of(self, places):
        """The bit of a body."""
        return self.bits.setdefault(places, 1 << len(self.bits))

    def places_in(self, held):
        """The places of the bodies that are held."""
        return [places for places in self.bits if covers(held, self.bits[places])]


class Outcome:
    """What comes of a deed; the deed is told as in an entry, also of a hold."""

    def __init__(self, deed, runs, answers):
        self.deed = deed
        self.answers = answers
        self.standings = tuple([run.standing_now() for run in runs])
        # The places of the bodies that begin to run on the first side.
        self.begun = runs[0].begun
        self.asked_word = any([run.asked_word for run in runs])
        self.asked_guest = any([run.asked_guest for run in runs])

    def agrees(self):
        """Whether the answers are the same on all sides."""
        return all([answer == self.answers[0] for answer in self.answers])

    def fault(self):
        """The kind and the word of the fault on the first side, None if it is none."""
        answer = self.answers[0]
        return answer[1:] if answer[0] == "fault" else None

    def lives_on(self):
        """Whether the thing is there behind it, and nothing tells the sides apart."""
        return self.agrees() and (self.deed[0] != "make" or self.fault() is None)


class Entry:
    """Standings with what is held, and how they were come to.

    ahead is the entry that it comes from, None behind a make. deed is (way, what,
    word, guest): make with a class; call or read with a word, or ring with places;
    or next. guest is a tuple of classes, and what is not there is None.
    """

    def __init__(self, stage, standings, held, ahead, deed):
        self.stage = stage
        self.standings = standings
        self.held = held
        self.ahead = ahead
        self.deed = deed
        self.covered = False


class Level:
    """What things can come to in one stage; states has what stands behind it."""

    def __init__(self, growth, stage, states):
        self.growth = growth
        self.stage = stage
        self.states = states
        # All entries in the order in which they came.
        self.entries = []
        # For all standings those entries that no other one covers.
        self.tops = {}
        # For all classes the entry that had them first: a thing keeps its class
        # within a stage, so all are known when the makes and moves are.
        self.guests = {}
        # What comes of a deed with some standings, whatever is held.
        self.known = {}

    def grow(self, ahead):
        """Enter all that there is; ahead is the level of the stage ahead, or None."""
        for outcome in self.births():
            if outcome.lives_on():
                self.enter(outcome.standings, 0, None, outcome.deed)
        if ahead is not None:
            for entry in ahead.top_entries():
                self.enter(self.become(entry.standings), entry.held, entry, ("next", None, None, None))
        at = 0
        while at < len(self.entries):
            # Whatever covers an entry comes on to all that it does.
            if not self.entries[at].covered:
                self.come_on(self.entries[at])
            at += 1

    def come_on(self, entry):
        """Enter all that one comes on to from the entry by one deed."""
        for outcome in self.outcomes_of(entry.standings, entry.held):
            if outcome.lives_on():
                self.enter(outcome.standings, entry.held, entry, outcome.deed)

    def enter(self, standings, held, ahead, deed):
        """Enter what was come to with what was held ahead, unless an entry covers it."""
        held = self.widened(standings, held)
        rivals = self.tops.get(standings, [])
        if any([covers(rival.held, held) for rival in rivals]):
            return
        for rival in rivals:
            rival.covered = covers(held, rival.held)
        entry = Entry(self.stage, standings, held, ahead, deed)
        self.tops[standings] = [rival for rival in rivals if not rival.covered] + [entry]
        self.entries.append(entry)
        self.guests.setdefault(classes_of(standings), entry)
        # All of these have an entry in the least table.
        if len(self.tops) > self.growth.most:
            raise TooMany()

    def widened(self, standings, held):
        """What is held, and what can be held of a thing with these standings."""
        if self.growth.with_holds:
            for _, places in self.holdables(standings):
                held = held | self.growth.bit_of(places)
        return held

    def holdables(self, standings):
        """Pairs of a word and the places of the body that can be held under it."""
        told = []
        for n in self.growth.offered(standings, "call"):
            parts = [run.holdable(n) for run in self.runs_of(standings, None, None)]
            if None not in parts:
                told.append((n, tuple([part.place for part in parts])))
        return told

    def become(self, standings):
        """What the standings of the stage ahead become by the steps of this one."""
        return tuple([moved(standing, state.moves) for standing, state in zip(standings, self.states)])

    def births(self):
        """What comes of each make with each word."""
        told = []
        # The same classes are seen on all sides.
        for klass in self.states[0].seen:
            if (klass[0], "born", "make") in self.growth.offers:
                standings = tuple([klass + ((),) for _ in self.states])
                told.extend([self.outcome(standings, ("make", klass, word, None)) for word in self.growth.words])
        return told

    def outcomes_of(self, standings, held):
        """What comes of each call, read and ring with each word and each guest."""
        deeds = [("call", n) for n in self.growth.offered(standings, "call")]
        deeds.extend([("read", n) for n in self.growth.offered(standings, "read")])
        deeds.extend([("ring", places) for places in self.growth.places_in(held)])
        told = []
        for way, what in deeds:
            key = (standings, way, what)
            if key not in self.known:
                self.known[key] = self.tried(standings, way, what)
            told.extend(self.known[key])
        return told

    def tried(self, standings, way, what):
        """What comes of a deed with each word and each guest that it asks for."""
        told = []
        for word in self.growth.words:
            asked_word = False
            for guest in [None, *self.guests]:
                outcome = self.outcome(standings, (way, what, word, guest))
                told.append(outcome)
                asked_word = asked_word or outcome.asked_word
                if not outcome.asked_guest:
                    break
            if not asked_word:
                break
        return told

    def outcome(self, standings, deed):
        """What comes of a deed with a thing of these standings."""
        way, what, word, guest = deed
        runs = self.runs_of(standings, word, guest)
        whats = [what for _ in runs]
        if way == "ring":
            whats = [state.placed[place] for state, place in zip(self.states, what)]
        return Outcome(deed, runs, [answer_of(run, way, one) for run, one in zip(runs, whats)])

    def runs_of(self, standings, word, guest):
        """A run on each side."""
        guests = [None for _ in self.states] if guest is None else guest
        return [
            Run(state, standing, word, klass)
            for state, standing, klass in zip(self.states, standings, guests)
        ]

    def all_outcomes(self):
        """What comes of all deeds of the stage, each with the entry ahead or None."""
        told = [(None, outcome) for outcome in self.births()]
        for entry in self.top_entries():
            outcomes = self.outcomes_of(entry.standings, entry.held)
            told.extend([(entry, outcome) for outcome in outcomes + self.hold_outcomes(entry.standings)])
        return told

    def hold_outcomes(self, standings):
        """What comes of each hold."""
        if not self.growth.with_holds:
            return []
        words = self.growth.offered(standings, "call")
        return [self.outcome(standings, ("hold", n, None, None)) for n in words]

    def top_entries(self):
        """The entries that no other one covers."""
        return [entry for entry in self.entries if not entry.covered]


def covers(held, other):
    """Whether what is held has all of the other one."""
    return held & other == other


def classes_of(standings):
    """The classes of a thing with these standings."""
    return tuple([(c, number) for c, number, _ in standings])


def levels_of(script, with_holds=True):
    """What things can come to in each stage: a list of levels.

    with_holds is whether outsiders hold and ring bodies, too.
    """
    growth = Growth(script, MOST_ENTRIES, with_holds)
    levels = []
    ahead = None
    for stage, state in enumerate(states_of(script)):
        level = Level(growth, stage, (state,))
        level.grow(ahead)
        if len(level.top_entries()) > MOST_ENTRIES:
            raise TooMany()
        levels.append(level)
        ahead = level
    return levels
