"""Playing histories: what outsiders do with the things."""

from remadeclasses.errors import BadDeed
from remadeclasses.forms import head_of, is_number_below, is_whole
from remadeclasses.running import Run, answer_of
from remadeclasses.stages import moved, states_of

# How many items each form of a deed has.
DEED_SIZES = {"make": 4, "call": 5, "hold": 3, "read": 3, "ring": 4, "next": 1}


class Play:
    """A history as far as it was played."""

    def __init__(self, script):
        self.words = script[0]
        self.offers = script[1]
        self.states = states_of(script)
        self.stage = 0
        # The standings of all things, and pairs of a thing's number and a part.
        self.things = []
        self.holds = []

    def lets(self, deed):
        """Whether any value is a deed that outsiders can do now."""
        way = head_of(deed)
        size = DEED_SIZES.get(way)
        if size is None or len(deed) != size:
            return False
        if way == "next":
            return self.stage + 1 < len(self.states)
        if way == "make":
            return self.lets_make(deed)
        if way == "ring":
            return is_number_below(deed[1], len(self.holds)) and self.lets_told(deed[2], deed[3])
        if not self.is_offered(deed[1], deed[2], "read" if way == "read" else "call"):
            return False
        return way != "call" or self.lets_told(deed[3], deed[4])

    def lets_make(self, deed):
        """Whether a deed of the size of a make can be done."""
        _, c, number, w = deed
        if (c, "born", "make") not in self.offers or w not in self.words:
            return False
        return is_whole(number) and (c, number) in self.present().seen

    def lets_told(self, w, guest):
        """Whether this can be told, with this thing as the guest or none."""
        return w in self.words and (guest is None or is_number_below(guest, len(self.things)))

    def is_offered(self, i, n, way):
        """Whether it is offered under the name of the class that thing i has now."""
        return is_number_below(i, len(self.things)) and (self.things[i][0], n, way) in self.offers

    def do_deed(self, deed):
        """Do a deed that can be done; tells its answer."""
        if deed[0] == "next":
            return self.go_on()
        if deed[0] == "make":
            return self.make(deed[1], deed[2], deed[3])
        if deed[0] == "hold":
            return self.hold(deed[1], deed[2])
        if deed[0] == "read":
            return self.run("read", deed[1], deed[2], None, None)
        if deed[0] == "call":
            return self.run("call", deed[1], deed[2], deed[3], deed[4])
        i, part = self.holds[deed[1]]
        return self.run("ring", i, part, deed[2], deed[3])

    def mark(self):
        """What is there now, for go_back."""
        return self.stage, tuple(self.things), tuple(self.holds)

    def go_back(self, mark):
        """Go back to where this was marked."""
        self.stage, things, holds = mark
        self.things = list(things)
        self.holds = list(holds)

    def present(self):
        """What stands behind the present stage."""
        return self.states[self.stage]

    def go_on(self):
        """Run the next stage."""
        self.stage += 1
        moves = self.present().moves
        self.things = [moved(standing, moves) for standing in self.things]
        return "ran", self.present().ran

    def make(self, c, number, w):
        """Make a thing."""
        run = Run(self.present(), (c, number, ()), w, None)
        answer = answer_of(run, "make", None)
        if answer[0] == "fault":
            return answer
        self.things.append(run.standing_now())
        return answer + (len(self.things) - 1,)

    def hold(self, i, n):
        """Hold a body of thing i."""
        run = Run(self.present(), self.things[i], None, None)
        answer = answer_of(run, "hold", n)
        if answer[0] == "fault":
            return answer
        self.holds.append((i, run.holdable(n)))
        return answer + (len(self.holds) - 1,)

    def run(self, way, i, what, w, guest):
        """Call, read or ring thing i; guest is the number of a thing or None."""
        klass = None
        if guest is not None:
            klass = (self.things[guest][0], self.things[guest][1])
        run = Run(self.present(), self.things[i], w, klass)
        answer = answer_of(run, way, what)
        self.things[i] = run.standing_now()
        return answer


def play(script, history):
    """The answers of the deeds of a history, any value."""
    return tuple(played(Play(script), history))


def standings_after(script, history):
    """The standings of all things behind a history, any value."""
    done = Play(script)
    played(done, history)
    return tuple(done.things)


def played(done, history):
    """Do all deeds of a history, any value, from its first one on; their answers."""
    if not isinstance(history, tuple):
        raise BadDeed(-1)
    answers = []
    for index, deed in enumerate(history):
        if not done.lets(deed):
            raise BadDeed(index)
        answers.append(done.do_deed(deed))
    return answers
