"""play and standings_after: histories that are none, and deeds that are not let by (point 8)."""

import copy

from acting import NEXT, PlayCase, call, does, klass, looks, make, ring, said, script_of
from remadeclasses.plays import play
from samples import NO_TUPLES, NO_WORDS, put

BIG = 10 ** 29
# Each of them is no number of two things.
NO_NUMBERS = (2, 3, -1, -2, BIG, -BIG, True, False, "", "0", "go", (), (0,), [0], [], {}, {"a": 0})

SCRIPT = script_of(
    ("dog born make", "man act call", "man born make", "man own call", "man see read"),
    (
        klass("dog", ""), klass("man", ""),
        klass("man", "", does("act", ("say", "w")), does("own", ("put", "own", "w")), looks("see", ("say", "v"))),
    ),
    (("part", "man", does("act", ("say", "x"))),),
)

# Two things, 0 and 1, and two bodies held, 0 and 1.
AHEAD = (make("man", 1), make("man", 1), ("hold", 0, "act"), ("hold", 1, "own"))

# Right deeds behind that, and what may stand for each of their parts.
WORDS, THINGS, GUESTS, HOLDS = ("go", "stop"), (0, 1), (0, 1, None), (0, 1)
DEEDS = (
    (make("man", 1), (("make",), ("man",), (1,), WORDS)),
    (make("dog", 0), (("make",), ("dog",), (0,), WORDS)),
    (call("act"), (("call",), THINGS, ("act", "own"), WORDS, GUESTS)),
    (call("act", 1, "stop", 1), (("call",), THINGS, ("act", "own"), WORDS, GUESTS)),
    (("hold", 0, "act"), (("hold",), THINGS, ("act", "own"))),
    (("read", 0, "see"), (("read",), THINGS, ("see",))),
    (ring(), (("ring",), HOLDS, WORDS, GUESTS)),
    (ring(1, "stop", 0), (("ring",), HOLDS, WORDS, GUESTS)),
    (NEXT, (("next",),)),
)

# What may be put in the place of a part of a deed, whether it is right there or not.
PARTS = NO_WORDS + NO_NUMBERS + (
    0, 1, None, "go", "stop", "man", "dog", "act", "own", "see", "none", "born", "make", "call", "hold", "read",
    "ring", "next", ["go"], ("go",), ["man"], {"go": "go"},
)


def is_right(item, may):
    """Whether an item is one of these, and no True for 1."""
    return repr(item) in [repr(one) for one in may]


class Histories(PlayCase):
    def test_no_tuples(self):
        for history in NO_TUPLES + ([NEXT], [make("man", 1)], {"next": 0}, "next"):
            self.check_bad(SCRIPT, history, -1)
        self.check_bad(SCRIPT, list(AHEAD), -1)

    def test_a_deed_in_the_place_of_a_history(self):
        for deed, _ in DEEDS:
            self.check_bad(SCRIPT, deed, 0)

    def test_no_deeds(self):
        wrong = ((), ((),), (NEXT,), ("",), (None,), (["next"],), (0,), ("do",))
        for deed in NO_TUPLES + NO_WORDS + NO_NUMBERS + wrong:
            self.check_bad(SCRIPT, (deed,), 0)
            self.check_bad(SCRIPT, AHEAD + (deed,), 4)

    def test_the_first_wrong_deed_is_told(self):
        right = AHEAD + (NEXT, call("act"))
        for at in range(len(right) + 1):
            for wrong in (None, (), ("next", None), call("none")):
                self.check_bad(SCRIPT, right[:at] + (wrong,) + right[at:], at)
                self.check_bad(SCRIPT, right[:at] + (wrong, None, wrong), at)

    def test_deeply_nested(self):
        value = ()
        for _ in range(18):
            value = (value, [value])
            if len(repr(value)) > 2000:
                break
        for deed, _ in DEEDS:
            for at in range(len(deed)):
                self.check_bad(SCRIPT, AHEAD + (put(deed, at, value),), 4)

    def test_nothing_is_changed_and_the_next_call_is_none_the_wiser(self):
        history = AHEAD + (["call", 0, "act", "go", None],)
        ahead = repr((SCRIPT, history))
        for _ in range(2):
            self.check_bad(SCRIPT, history, 4)
            self.check_last(SCRIPT, AHEAD + (NEXT, call("act")), said("x"))
        self.assertEqual(repr((SCRIPT, history)), ahead)


class Deeds(PlayCase):
    def test_right_ones(self):
        for deed, _ in DEEDS:
            self.check(SCRIPT, AHEAD, (("thing", 0), ("thing", 1), ("held", 0), ("held", 1)))
            self.check_last(SCRIPT, AHEAD + (deed,), {
                "make": ("thing", 2), "hold": ("held", 2), "next": ("ran", 1), "read": said("v"),
            }.get(deed[0], said("" if deed[1:] == (1, "stop", 0) else "w")))

    def test_one_part_otherwise(self):
        for deed, mays in DEEDS:
            for at, may in enumerate(mays):
                for item in PARTS:
                    changed = put(deed, at, copy.deepcopy(item))
                    if is_right(item, may):
                        self.assertEqual(len(play(SCRIPT, AHEAD + (changed,))), 5)
                    else:
                        self.check_bad(SCRIPT, AHEAD + (changed,), 4)

    def test_a_part_more_or_less(self):
        for deed, _ in DEEDS:
            for many in range(len(deed)):
                self.check_bad(SCRIPT, AHEAD + (deed[:many],), 4)
            for more in (None, 0, "go", (), deed[-1]):
                self.check_bad(SCRIPT, AHEAD + (deed + (more,),), 4)

    def test_a_list_for_a_tuple(self):
        for deed, _ in DEEDS:
            self.check_bad(SCRIPT, AHEAD + (list(deed),), 4)

    def test_true_for_one_and_false_for_none(self):
        for deed in (
            make("man", True), make("dog", False), call("act", True), call("act", False), call("act", 0, "go", True),
            call("act", 0, "go", False), ("hold", True, "act"), ("hold", False, "act"), ("read", True, "see"),
            ("read", False, "see"), ring(True), ring(False), ring(0, "go", True), ring(0, "go", False),
        ):
            self.check_bad(SCRIPT, AHEAD + (deed,), 4)

    def test_what_is_not_there_yet(self):
        self.check_bad(SCRIPT, (call("act"),), 0)
        self.check_bad(SCRIPT, (make("man", 1), call("act", 1)), 1)
        self.check_bad(SCRIPT, (make("man", 1), call("act", 0, "go", 1)), 1)
        self.check_bad(SCRIPT, (make("man", 1), ring()), 1)
        self.check_bad(SCRIPT, (make("man", 1), ("hold", 0, "act"), ring(1)), 2)
        self.check_bad(SCRIPT, (make("man", 1), ("hold", 0, "act"), ring(0, "go", 1)), 2)

    def test_no_next_stage(self):
        self.check_bad(SCRIPT, (NEXT, NEXT), 1)
        for many in (1, 2, 3):
            script = script_of((), *[()] * many)
            self.check(script, (NEXT,) * (many - 1), (("ran", 0),) * (many - 1))
            self.check_bad(script, (NEXT,) * many, many - 1)
            self.check_bad(script, (NEXT,) * (many + 1), many - 1)

    def test_a_word_that_is_not_told_here(self):
        script = script_of(("man born make",), (klass("man", ""),), words=("go",))
        self.check(script, (make(),), (("thing", 0),))
        self.check_bad(script, (make(w="stop"),), 0)

    def test_nothing_is_offered(self):
        script = script_of((), (klass("man", "", does("act")),))
        self.check_bad(script, (make(),), 0)
