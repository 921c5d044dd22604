"""Scripts with as many entries as may be, and with one more, for the tests."""

from acting import does, klass, script_of, value


def steps_through(n, *words):
    """A does that takes the own field step by step through none and these words."""
    rows = [("if", ("has", n), (), (("put", n, words[0]), ("say", "ok")))]
    for at in range(len(words) - 1):
        rows.append(("if", ("is", n, words[at]), (("put", n, words[at + 1]), ("say", "ok")), ()))
    last = rows.pop() if len(rows) == 4 else ("if", ("has", n), (), ())
    return does("step" + n, *rows, last[:3] + ((("drop", n),),) if len(rows) == 3 else ("drop", n))


def all_of(*fields):
    """The standings of man 0 with each of these fields none or one of the words."""
    rows = [()]
    for n, words in fields:
        rows = [row + more for row in rows for more in [()] + [((n, word),) for word in words]]
    return tuple(("man", 0, row) for row in sorted(rows))


DOG = klass("dog", "")
OFFERS = ("man born make", "man stepa call", "man stepb call", "man stepc call")
MORE_OFFERS = ("dog born make",) + OFFERS

# Men with 60 standings.
CROWD = klass(
    "man", "", steps_through("a", "p", "q", "r", "s"), steps_through("b", "p", "q", "r"), steps_through("c", "p", "q"),
)
CROWDED = all_of(("a", "pqrs"), ("b", "pqr"), ("c", "pq"))

# 60 entries for the stage, and 61 of them.
FULL = script_of(OFFERS, (CROWD, DOG))
FULLER = script_of(MORE_OFFERS, (CROWD, DOG))


def split(*stepped, one=(), last=()):
    """A script in whose last stage each standing of man has two entries.

    A man has either the own field one or other, so that only the body of the
    other word can be held; then both fields go, and no more men are made.
    """
    born = does("born", ("if", ("told", "go"), (("put", "one", "x"),), (("put", "other", "x"),)))
    return script_of(
        MORE_OFFERS + ("man one call", "man other call"),
        (klass("kin", "", *stepped), klass("man", "kin", born, does("one", *one), does("other"))),
        (("cut", "man", "one"), ("cut", "man", "other"), ("part", "man", value("born", "v"))),
        (("clear", "man", "one"), ("clear", "man", "other")) + last,
    )


# In the last stage of both there are men of 30 standings.
HALF_CROWD = (steps_through("a", "p", "q", "r", "s"), steps_through("b", "p", "q"), steps_through("c", "p"))
HALF_CROWDED = all_of(("a", "pqrs"), ("b", "pq"), ("c", "p"))
SPLIT_FULL = split(*HALF_CROWD)
SPLIT_FULLER = split(*HALF_CROWD, last=(DOG,))

# All of these have too many entries for some stage.
TOO_MANY = (
    FULLER, script_of(MORE_OFFERS, (), (CROWD,), (DOG,)), script_of(MORE_OFFERS, (DOG, CROWD), (), ()), SPLIT_FULLER,
)
