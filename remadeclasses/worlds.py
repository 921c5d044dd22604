"""Worlds: a history that goes on."""

from remadeclasses.bounds import MOST_DEEDS
from remadeclasses.errors import BadDeed, NoSuch, NothingToUndo
from remadeclasses.forms import is_number_below, is_standing
from remadeclasses.plays import Play
from remadeclasses.scripts import check_script


class World:
    """A script that is played deed by deed."""

    def __init__(self, script):
        check_script(script)
        self.given = script
        self.done = Play(script)
        self.deeds = ()
        # What stood ahead of each deed.
        self.marks = []
        # Never changed, but made anew: who walks over them keeps the elder ones.
        self.rows = ()

    @property
    def script(self):
        """The script that is played."""
        return self.given

    @property
    def reached(self):
        """The number of the last stage that was run."""
        return self.done.stage

    @property
    def history(self):
        """All deeds that were done."""
        return self.deeds

    def __getitem__(self, at):
        if not is_number_below(at, len(self.rows)):
            raise NoSuch(at)
        return self.rows[at]

    def __len__(self):
        return len(self.rows)

    def __contains__(self, x):
        return is_standing(x) and x in self.rows

    def __iter__(self):
        return iter(self.rows)

    def __eq__(self, other):
        return isinstance(other, World) and self.given == other.given and self.deeds == other.deeds

    def __str__(self):
        return f"stage {self.done.stage}, {len(self.rows)} things, {len(self.deeds)} deeds"

    def make(self, c, number, w):
        """Make a thing of a class."""
        return self.do_next(("make", c, number, w))

    def call(self, i, n, w, *, guest=None):
        """Call n of thing i."""
        return self.do_next(("call", i, n, w, guest))

    def read(self, i, n):
        """Read n of thing i."""
        return self.do_next(("read", i, n))

    def hold(self, i, n):
        """Hold the body that thing i has under n."""
        return self.do_next(("hold", i, n))

    def ring(self, h, w, *, guest=None):
        """Run the body held as number h."""
        return self.do_next(("ring", h, w, guest))

    def go_on(self):
        """Run the next stage."""
        return self.do_next(("next",))

    def do_next(self, deed):
        """Do any value that is a deed and is let by; tells its answer."""
        if not self.lets_next(deed, 0):
            raise BadDeed(len(self.deeds))
        self.marks.append(self.done.mark())
        answer = self.done.do_deed(deed)
        self.deeds = self.deeds + (deed,)
        self.rows = tuple(self.done.things)
        return answer

    def lets_next(self, deed, more):
        """Whether any value is a deed that can be done, behind so many that would be."""
        return len(self.deeds) + more < MOST_DEEDS and self.done.lets(deed)

    def undo(self):
        """Take the last deed back."""
        if len(self.deeds) == 0:
            raise NothingToUndo()
        self.done.go_back(self.marks.pop())
        self.deeds = self.deeds[:-1]
        self.rows = tuple(self.done.things)

    def would(self, deeds):
        """The answers that deeds, any value, would have, done one behind another."""
        if not isinstance(deeds, tuple):
            raise BadDeed(-1)
        mark = self.done.mark()
        answers = []
        for deed in deeds:
            if not self.lets_next(deed, len(answers)):
                break
            answers.append(self.done.do_deed(deed))
        # Ahead of any error: the world stays as it is.
        self.done.go_back(mark)
        if len(answers) < len(deeds):
            raise BadDeed(len(answers))
        return tuple(answers)
