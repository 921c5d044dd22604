"""The least table of a script: all that a thing can come to, stage by stage.

What outsiders hold of a thing is a whole number here, the sum of the bits of the
bodies: so one look tells whether one entry covers another.
"""

from remadeclasses.bounds import MOST_ENTRIES
from remadeclasses.errors import TooMany
from remadeclasses.running import Run, answer_of, birth_fault
from remadeclasses.scripts import bodies
from remadeclasses.stages import moved, states_of


class Entry:
    """A standing with what is held, and how it was come to.

    ahead is the entry that it comes from, None behind a make. deed is (way, what,
    word, guest): make with a class; call or read with a word, or ring with a
    place; or next. guest is a class, and what is not there is None.
    """

    def __init__(self, stage, standing, held, ahead, deed):
        self.stage = stage
        self.standing = standing
        self.held = held
        self.ahead = ahead
        self.deed = deed
        self.covered = False


class Level:
    """What things can come to in one stage."""

    def __init__(self, script, stage, state):
        self.words = script[0]
        self.offers = script[1]
        self.stage = stage
        self.state = state
        self.bits = {place: 1 << b for b, place in enumerate(bodies(script))}
        # All entries in the order in which they came.
        self.entries = []
        # Those of each standing that no other one covers.
        self.tops = {}
        # For each class the entry that had it first: a thing keeps its class
        # within a stage, so all are known when the makes and moves are.
        self.guests = {}
        # What one comes to from a standing, whatever is held.
        self.known = {}

    def begin(self, ahead):
        """Enter what is made, and what the entries of the stage ahead become."""
        for klass in self.state.seen:
            if (klass[0], "born", "make") in self.offers:
                self.make(klass)
        if ahead is not None:
            for entry in ahead.top_entries():
                standing = moved(entry.standing, self.state.moves)
                self.enter(standing, entry.held, entry, ("next", None, None, None))

    def make(self, klass):
        """Enter what a make of the class begins with each word."""
        for word in self.words:
            run = Run(self.state, klass + ((),), word, None)
            if birth_fault(run) is None:
                self.enter(run.standing_now(), 0, None, ("make", klass, word, None))

    def enter(self, standing, held, ahead, deed):
        """Enter what was come to, unless an entry covers it."""
        held = held | self.bits_of(standing)
        rivals = self.tops.get(standing, [])
        if any([covers(rival.held, held) for rival in rivals]):
            return
        for rival in rivals:
            rival.covered = covers(held, rival.held)
        entry = Entry(self.stage, standing, held, ahead, deed)
        self.tops[standing] = [rival for rival in rivals if not rival.covered] + [entry]
        self.entries.append(entry)
        self.guests.setdefault((standing[0], standing[1]), entry)
        # Each standing has an entry in the least table.
        if len(self.tops) > MOST_ENTRIES:
            raise TooMany()

    def bits_of(self, standing):
        """The bits of the bodies that can be held of a thing with this standing."""
        held = 0
        for part in self.holdables(standing):
            held = held | self.bits[part.place]
        return held

    def holdables(self, standing):
        """The parts whose bodies can be held of a thing with this standing."""
        run = Run(self.state, standing, None, None)
        parts = [run.holdable(n) for c, n, way in self.offers if c == standing[0] and way == "call"]
        return [part for part in parts if part is not None]

    def grow(self):
        """Enter all that one comes on to."""
        at = 0
        while at < len(self.entries):
            entry = self.entries[at]
            # Whatever covers it comes on to all that it does.
            if not entry.covered:
                self.come_on(entry)
            at += 1

    def come_on(self, entry):
        """Enter what one comes on to from the entry by one deed."""
        for c, n, way in self.offers:
            if c == entry.standing[0] and way != "make":
                self.come_on_by(entry, way, n)
        for place in self.bits:
            if covers(entry.held, self.bits[place]):
                self.come_on_by(entry, "ring", place)

    def come_on_by(self, entry, way, what):
        """Enter what one comes on to by a deed with each word and each guest."""
        key = (entry.standing, way, what)
        if key not in self.known:
            self.known[key] = self.comes_to(entry.standing, way, what)
        comes = self.known[key]
        for standing in comes:
            word, guest = comes[standing]
            self.enter(standing, entry.held, entry, (way, what, word, guest))

    def comes_to(self, standing, way, what):
        """The standings behind a deed, with the word and the guest by which they come."""
        part = self.state.placed[what] if way == "ring" else what
        comes = {}
        for word in self.words:
            asked_word = False
            for guest in [None, *self.guests]:
                run = Run(self.state, standing, word, guest)
                answer_of(run, way, part)
                comes.setdefault(run.standing_now(), (word, guest))
                asked_word = asked_word or run.asked_word
                if not run.asked_guest:
                    break
            if not asked_word:
                break
        return comes

    def top_entries(self):
        """The entries that no other one covers."""
        return [entry for entry in self.entries if not entry.covered]


def covers(held, other):
    """Whether what is held has all of the other one."""
    return held & other == other


def levels_of(script):
    """What things can come to in each stage: a list of levels."""
    levels = []
    ahead = None
    for stage, state in enumerate(states_of(script)):
        level = Level(script, stage, state)
        level.begin(ahead)
        level.grow()
        if len(level.top_entries()) > MOST_ENTRIES:
            raise TooMany()
        levels.append(level)
        ahead = level
    return levels
