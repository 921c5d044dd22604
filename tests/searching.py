"""A search through all short histories, for the tests."""

from unittest import mock

from remadeclasses.plays import Play
from remadeclasses.running import Run

NEXT = ("next",)


def deeds_of(done, most_things, most_holds):
    """All deeds that could be done; some of them are not let by."""
    guests = (None,) + tuple(range(len(done.things)))
    yield NEXT
    if len(done.things) < most_things:
        for c, number in done.present().orders:
            for w in done.words:
                yield ("make", c, number, w)
    for i in range(len(done.things)):
        for n in sorted({n for _, n, _ in done.offers}):
            yield ("read", i, n)
            yield ("hold", i, n)
            for w in done.words:
                for guest in guests:
                    yield ("call", i, n, w, guest)
    for h in range(len(done.holds)):
        for w in done.words:
            for guest in guests:
                yield ("ring", h, w, guest)


def done_by(script, history):
    """The play in which the deeds were done; their answers are not asked."""
    done = Play(script)
    for deed in history:
        assert done.lets(deed), deed
        done.do_deed(deed)
    return done


def case_of(done, deed, answer):
    """The case of a deed that is done next and has this answer, None if it is no fault."""
    if answer[0] != "fault":
        return None
    told = deed[:3]
    if deed[0] == "ring":
        told = ("ring",) + done.holds[deed[1]][1].place
    elif deed[0] != "make":
        told = (deed[0],) + done.things[deed[1]][:2] + (deed[2],)
    return (done.stage, told) + answer[1:]


def begun_by(done, deed):
    """The answer of a deed, and the places of the bodies that begin to run in it."""
    begun = []
    begin = Run.begin

    def spied(run, part, knows):
        if len(run.begun) < 40:
            begun.append(part.place)
        return begin(run, part, knows)

    with mock.patch.object(Run, "begin", spied):
        answer = done.do_deed(deed)
    return answer, tuple(begun)


class Search:
    """What all histories of so many deeds show.

    Of histories that leave the same things and bodies held only one is looked at.
    The things are told apart by nothing else than their numbers.
    """

    def __init__(self, script, most, most_things, most_holds):
        self.script = script
        self.found = [set() for _ in script[2]]
        self.cases = set()
        self.runs = set()
        self.done = Play(script)
        todo = [(0, (), ())]
        seen = set(todo)
        for _ in range(most):
            ahead, todo = todo, []
            for state in ahead:
                for behind in self.behind(state, most_things, most_holds):
                    if behind not in seen:
                        seen.add(behind)
                        todo.append(behind)
                        self.found[behind[0]].update(behind[1])

    def go_to(self, state):
        self.done.stage = state[0]
        self.done.things = list(state[1])
        self.done.holds = list(state[2])

    def behind(self, state, most_things, most_holds):
        """All that can stand behind one more deed."""
        self.go_to(state)
        for deed in list(deeds_of(self.done, most_things, most_holds)):
            self.go_to(state)
            if not self.done.lets(deed):
                continue
            answer, begun = begun_by(self.done, deed)
            behind = (self.done.stage, tuple(self.done.things), tuple(self.done.holds))
            self.go_to(state)
            case = case_of(self.done, deed, answer)
            if case is not None:
                self.cases.add(case)
            self.runs.update((state[0], place) for place in begun)
            if len(behind[2]) <= most_holds:
                yield behind

    def standings(self):
        """The standings of all things, by stage."""
        return [tuple(sorted(standings)) for standings in self.found]


def search(script, most, most_things=2, most_holds=1):
    """What all histories of so many deeds show."""
    return Search(script, most, most_things, most_holds)
