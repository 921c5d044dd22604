"""Scripts that can be played, and how plays are asked about, for the tests."""

import copy
import unittest

from remadeclasses.errors import BadDeed
from remadeclasses.plays import play, standings_after
from remadeclasses.scripts import script_error

NEXT = ("next",)


def script_of(offers, *stages, words=("go", "stop")):
    """A script with these offers, each a text like "man greet call"."""
    return (words, tuple(sorted(tuple(offer.split()) for offer in offers)), stages)


def does(n, *rows):
    return (n, "does", rows)


def looks(n, *rows):
    return (n, "looks", rows)


def value(n, word):
    return (n, "value", word)


def klass(c, bases, *parts):
    """A step class; bases is a text, the parts in any order."""
    return ("class", c, tuple(bases.split()), tuple(sorted(parts, key=lambda part: part[0])))


def make(c="man", number=0, w="go"):
    return ("make", c, number, w)


def call(n, i=0, w="go", guest=None):
    return ("call", i, n, w, guest)


def ring(h=0, w="go", guest=None):
    return ("ring", h, w, guest)


def fault(kind, n):
    return ("fault", kind, n)


def said(text):
    return ("said", text)


class PlayCase(unittest.TestCase):
    """Plays histories, and looks at what no play may do."""

    def check(self, script, history, answers, standings=None):
        """The history has these answers, each time, and leaves these standings."""
        self.assertIsNone(script_error(script))
        ahead = repr((script, history))
        with self.subTest(history=history):
            first = play(script, history)
            self.assertEqual(repr(first), repr(tuple(answers)))
            self.assertEqual(repr(play(script, copy.deepcopy(history))), repr(first))
            left = standings_after(script, history)
            self.assertIs(type(left), tuple)
            if standings is not None:
                self.assertEqual(repr(left), repr(tuple(standings)))
            self.assertEqual(repr(standings_after(script, history)), repr(left))
            self.assertEqual(repr((script, history)), ahead)

    def check_last(self, script, history, answer):
        """The last deed of the history has this answer."""
        self.assertIsNone(script_error(script))
        with self.subTest(history=history):
            self.assertEqual(repr(play(script, history)[-1]), repr(answer))

    def check_bad(self, script, history, index):
        """Both play and standings_after refuse the history by this index."""
        ahead = repr((script, history))
        for asked in (play, standings_after):
            with self.subTest(asked=asked, history=history):
                with self.assertRaises(BadDeed) as caught:
                    asked(script, history)
                self.assertEqual(repr(caught.exception.index), repr(index))
        self.assertEqual(repr((script, history)), ahead)


# The example of the document.
S = (
    ("go",),
    (("man", "born", "make"), ("man", "greet", "call")),
    (
        (("class", "man", (), (
            ("born", "does", (("put", "name", "adam"),)), ("greet", "does", (("tell", "name"),)),
        )),),
        (("class", "man", (), (
            ("born", "does", (("put", "title", "sir"),)), ("greet", "does", (("tell", "title"),)),
        )), ("lead", "man")),
    ),
)

S_TEXT = """words go
offer man born make
offer man greet call
stage
class man
  born does { put name adam }
  greet does { tell name }
stage
class man
  born does { put title sir }
  greet does { tell title }
lead man
"""

# What the man of with_run is kin to: a part of each sort.
KIN = klass("kin", "", does("act", ("say", "acted")), value("val", "valued"), looks("view", ("say", "seen")))

BORN = does("born", ("put", "own", "w"))


def with_run(*body, more=()):
    """A man with the own field own and this body under the word run."""
    man = klass("man", "kin", BORN, does("run", *body), *more)
    return script_of(("man born make", "man run call"), (KIN, man))


class BodyCase(PlayCase):
    """Calls a body and looks at the answer and at the own fields behind it."""

    def check_body(self, body, answer, more=(), **fields):
        """The call of the body has this answer and leaves these fields, beside own."""
        fields.setdefault("own", "w")
        standing = ("man", 0, tuple(sorted((n, word) for n, word in fields.items() if word)))
        script = with_run(*body, more=more)
        self.check(script, (make(), call("run")), (("thing", 0), answer), (standing,))

    def check_fault(self, row, kind, n, more=()):
        """The row is this fault: what is ahead of it stays, what is behind is not done."""
        body = (("put", "ahead", "a"), row, ("put", "behind", "b"))
        self.check_body(body, fault(kind, n), more, ahead="a")
