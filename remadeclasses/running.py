"""Running bodies: what one deed does to the thing that it is done with."""

from remadeclasses.bounds import MOST_RUNS
from remadeclasses.stages import standing_of


class Fault(Exception):
    """A fault of what outsiders do; it ends the deed and is part of its answer."""

    def __init__(self, kind, n):
        self.kind = kind
        self.n = n


class Run:
    """A deed while it is done.

    guest is the class of the guest; word and guest are None where there is none.
    Whoever runs a body tells whether it knows these two: the body of a looks does
    not, and neither do those that it calls.
    """

    def __init__(self, state, standing, word, guest):
        self.state = state
        self.klass = (standing[0], standing[1])
        self.order = state.orders[self.klass]
        self.fields = dict(standing[2])
        self.word = word
        self.guest = guest
        # The places of the bodies of parts that began to run.
        self.begun = []
        # Where these stay False the deed does the same with any word or guest.
        self.asked_word = False
        self.asked_guest = False

    def standing_now(self):
        """The standing of the thing as it is now."""
        return standing_of(self.klass, self.fields)

    def read(self, n):
        """What reading n gives."""
        part = self.state.found(self.order, n)
        if part is not None and part.looks:
            return self.begin(part, False)
        if n in self.fields:
            return self.fields[n]
        if part is None:
            raise Fault("lacks", n)
        if part.does:
            raise Fault("does", n)
        return part.what

    def begin(self, part, knows):
        """What the body of the part says."""
        if len(self.begun) == MOST_RUNS:
            raise Fault("long", part.n)
        self.begun.append(part.place)
        return self.run_body(part.what, part.home, knows)

    def run_body(self, body, home, knows):
        """What a body says that stands in the class home."""
        # The last of these is the next row: an if puts the rows of a body there.
        rows = list(body[::-1])
        while len(rows) > 0:
            row = rows.pop()
            if row[0] == "say":
                return row[1]
            if row[0] == "tell":
                return self.read(row[1])
            if row[0] == "give":
                return self.call(row[1], home, knows)
            if row[0] == "do":
                self.call(row[1], home, knows)
            elif row[0] == "if":
                branch = row[2] if self.meets(row[1], knows) else row[3]
                rows.extend(list(branch[::-1]))
            else:
                self.change(row, knows)
        return ""

    def call(self, target, home, knows):
        """What a call of the target says."""
        n = target[-1]
        if target[0] == "own":
            return self.call_own(n, knows)
        klass = home if target[0] == "up" else self.bound(target[1])
        if target[0] == "base":
            return self.call_found(self.state.orders[klass], n, knows)
        if klass not in self.order:
            raise Fault("strange", n)
        return self.call_found(self.order[self.order.index(klass) + 1:], n, knows)

    def call_own(self, n, knows):
        """What a call of the target ("own", n) says."""
        part = self.holdable(n)
        if part is not None:
            return self.begin(part, knows)
        self.read(n)
        raise Fault("word", n)

    def holdable(self, n):
        """The part whose body is called by ("own", n), and held under n, or None."""
        part = self.state.found(self.order, n)
        if part is None or not part.does or n in self.fields:
            return None
        return part

    def check_hold(self, n):
        """Refuse to hold where nothing is held under n."""
        if self.holdable(n) is None:
            found = n in self.fields or self.state.found(self.order, n) is not None
            raise Fault("word" if found else "lacks", n)

    def bear(self):
        """Call what a thing that is made begins with, if it has such a part."""
        if self.state.found(self.order, "born") is not None:
            self.call_own("born", True)

    def call_found(self, row, n, knows):
        """What a call says of the part n that is found in this row of classes."""
        part = self.state.found(row, n)
        if part is None:
            raise Fault("lacks", n)
        if part.does:
            return self.begin(part, knows)
        if part.looks:
            self.begin(part, False)
        raise Fault("word", n)

    def bound(self, c):
        """The class to which the word is bound."""
        if c not in self.state.names:
            raise Fault("name", c)
        return self.state.bound(c)

    def meets(self, test, knows):
        """Whether the test is met."""
        if test[0] == "has":
            return test[1] in self.fields
        if test[0] == "is":
            return self.read(test[1]) == test[2]
        if test[0] == "told":
            return self.word_told(knows) == test[1]
        klass = self.bound(test[1])
        if test[0] == "kin":
            return klass in self.order
        return self.is_guest_kin(klass, knows)

    def word_told(self, knows):
        """The word that was told, None if none was."""
        if not knows:
            return None
        self.asked_word = True
        return self.word

    def is_guest_kin(self, klass, knows):
        """Whether there is a guest that is kin to the class."""
        if not knows:
            return False
        self.asked_guest = True
        return self.guest is not None and klass in self.state.orders[self.guest]

    def change(self, row, knows):
        """Do a row that changes an own field."""
        n = row[1]
        part = self.state.found(self.order, n)
        if part is not None and part.looks:
            raise Fault("looks", n)
        if row[0] == "put":
            self.fields[n] = row[2]
        elif row[0] == "keep":
            word = self.word_told(knows)
            if word is None:
                raise Fault("untold", n)
            self.fields[n] = word
        else:
            if n not in self.fields:
                raise Fault("lacks", n)
            del self.fields[n]


def answer_of(run, way, what):
    """The answer of a deed; a make and a hold are told without their numbers.

    call, read and hold come with a word, ring with a part; make takes nothing.
    """
    try:
        return done_by(run, way, what)
    except Fault as fault:
        return "fault", fault.kind, fault.n


def done_by(run, way, what):
    """The answer of a deed if it is no fault."""
    if way == "make":
        run.bear()
        return ("thing",)
    if way == "hold":
        run.check_hold(what)
        return ("held",)
    if way == "read":
        return "said", run.read(what)
    if way == "ring":
        return "said", run.begin(what, True)
    return "said", run.call_own(what, True)
