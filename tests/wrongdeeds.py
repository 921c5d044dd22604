"""A script with right deeds, and with what is none, for the tests."""

from acting import NEXT, call, does, klass, looks, make, ring, script_of
from samples import NO_WORDS

BIG = 10 ** 29
# Each of them is no number of two things.
NO_NUMBERS = (2, 3, -1, -2, BIG, -BIG, True, False, "", "0", "go", (), (0,), [0], [], {}, {"a": 0})

SCRIPT = script_of(
    ("dog born make", "man act call", "man born make", "man own call", "man see read"),
    (
        klass("dog", ""), klass("man", ""),
        klass("man", "", does("act", ("say", "w")), does("own", ("put", "own", "w")), looks("see", ("say", "v"))),
    ),
    (("part", "man", does("act", ("say", "x"))),),
)

# Two things, 0 and 1, and two bodies held, 0 and 1.
AHEAD = (make("man", 1), make("man", 1), ("hold", 0, "act"), ("hold", 1, "own"))

# Right deeds behind that, and what may stand for each of their parts.
WORDS, THINGS, GUESTS, HOLDS = ("go", "stop"), (0, 1), (0, 1, None), (0, 1)
DEEDS = (
    (make("man", 1), (("make",), ("man",), (1,), WORDS)),
    (make("dog", 0), (("make",), ("dog",), (0,), WORDS)),
    (call("act"), (("call",), THINGS, ("act", "own"), WORDS, GUESTS)),
    (call("act", 1, "stop", 1), (("call",), THINGS, ("act", "own"), WORDS, GUESTS)),
    (("hold", 0, "act"), (("hold",), THINGS, ("act", "own"))),
    (("read", 0, "see"), (("read",), THINGS, ("see",))),
    (ring(), (("ring",), HOLDS, WORDS, GUESTS)),
    (ring(1, "stop", 0), (("ring",), HOLDS, WORDS, GUESTS)),
    (NEXT, (("next",),)),
)

# What may be put in the place of a part of a deed, whether it is right there or not.
PARTS = NO_WORDS + NO_NUMBERS + (
    0, 1, None, "go", "stop", "man", "dog", "act", "own", "see", "none", "born", "make", "call", "hold", "read",
    "ring", "next", ["go"], ("go",), ["man"], {"go": "go"},
)


def is_right(item, may):
    """Whether an item is one of these, and no True for 1."""
    return repr(item) in [repr(one) for one in may]
