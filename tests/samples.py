"""Scripts, and values that are none, for the tests."""

import copy
import unittest

from remadeclasses.scripts import script_error

LONG = "jabcdefg"
LONGER = "jabcdefgh"

# Each of them stands for no word.
NO_WORDS = (
    "", LONGER, "Adam", "aDam", "adam1", "a b", " adam", "adam ", "a_b", "a-b",
    "a\n", "1", "~", "`", "{", "A", "Z", "\u00e9", "\u00df", "\u0430", None, True, False,
    0, 1, 10 ** 29, -1, (), ("adam",), ["adam"], ["a", "d"], {}, {"adam": "adam"},
)

# Each of them stands for no tuple.
NO_TUPLES = (None, True, False, 0, 2, "", "say", [], [()], ["a", "b", "c"], {}, {"say": "a"})

TARGETS = (("own", "n"), ("up", LONG), ("past", "c", "n"), ("base", LONG, "n"))
TESTS = (("has", "n"), ("is", "n", LONG), ("kin", "c"), ("guest", LONG), ("told", "go"))

# A script in which each form of a step, a part, a row, a target and a test
# stands, and as much of everything as may be.
RICH = (
    ("go", "stop"),
    (
        ("a", "b", "call"), ("a", "b", "read"), ("a", "born", "call"), ("a", "born", "make"),
        ("a", "born", "read"), ("b", "a", "read"), (LONG, "born", "make"), ("man", "greet", "call"),
    ),
    (
        (
            ("class", "a", (), (
                ("born", "does", (("put", "n", "w"), ("keep", "n"), ("drop", "n"), ("say", "w"))),
                ("n", "value", "w"),
                ("o", "looks", (("tell", "n"), ("do", ("own", "n")), ("give", ("up", "n")))),
                ("p", "does", (
                    ("do", ("past", "c", "n")),
                    ("give", ("base", "c", "n")),
                    ("if", ("has", "n"), (
                        ("if", ("is", "n", "w"), (("do", ("up", "n")),), (("say", "w"),)),
                        ("say", "w"), ("say", "w"), ("say", "w"),
                    ), (
                        ("keep", "n"),
                        ("if", ("kin", "c"), (), (("give", ("own", "n")), ("tell", "n"))),
                    )),
                    ("if", ("guest", "c"), (), (("if", ("told", "go"), (), ()),)),
                )),
            )),
            ("class", LONG, ("a", "a", "b"), ()),
            ("class", "b", ("a",), (("n", "value", LONG),)),
            ("part", "a", ("n", "value", "w")),
        ),
        (
            ("part", "a", ("n", "does", (
                ("if", ("has", "n"), (("if", ("has", "n"), (("do", ("own", "n")),), ()),), (("tell", "n"),)),
                ("give", ("base", "c", "n")),
            ))),
            ("part", "a", ("n", "looks", (("do", ("past", "c", "n")),))),
            ("cut", "a", "n"),
            ("forget", "b"),
        ),
        (
            ("lead", "a"),
            ("rebase", "a", ("b", LONG, "a")),
            ("fill", "a", "n", "w"),
            ("clear", "a", "n"),
        ),
    ),
)

RICH_TEXT = """words go stop
offer a b call
offer a b read
offer a born call
offer a born make
offer a born read
offer b a read
offer jabcdefg born make
offer man greet call
stage
class a
  born does { put n w ; keep n ; drop n ; say w }
  n value w
  o looks { tell n ; do own n ; give up n }
  p does { do past c n ; give base c n ; if has n { if is n w { do up n } { say w } ; say w ; say w ; say w }""" \
    """ { keep n ; if kin c { } { give own n ; tell n } } ; if guest c { } { if told go { } { } } }
class jabcdefg a a b
class b a
  n value jabcdefg
part a n value w
stage
part a n does { if has n { if has n { do own n } { } } { tell n } ; give base c n }
part a n looks { do past c n }
cut a n
forget b
stage
lead a
rebase a b jabcdefg a
fill a n w
clear a n
"""


def exact(value):
    """A text that keeps apart what is equal to Python, such as 1 and True."""
    return repr(value)


class ScriptCase(unittest.TestCase):
    """Asks script_error, and looks at what no answer may do."""

    def check(self, value, told):
        """script_error(value) tells this, each time, and leaves the value as it is."""
        ahead = exact(value)
        kept = copy.deepcopy(value)
        with self.subTest(value=value):
            first = script_error(value)
            self.assertEqual(exact(first), exact(told))
            self.assertEqual(exact(script_error(value)), exact(told))
            self.assertEqual(exact(script_error(kept)), exact(told))
            self.assertEqual(exact(value), ahead)


def with_stages(*stages):
    """A script of these stages."""
    return (("go",), (), stages)


def with_step(step):
    """A script with this step at (2, 0, 0)."""
    return with_stages((step,))


def with_parts(parts):
    """A script with a class whose parts stand at (2, 0, 0, 3)."""
    return with_step(("class", "man", (), parts))


def with_part(part):
    """A script with a step part whose part stands at (2, 0, 0, 2)."""
    return with_step(("part", "man", part))


def class_spots():
    """Pairs of a function that puts a body into a class, and the body's place."""
    return [
        (lambda body: with_parts((("n", "does", body),)), (2, 0, 0, 3, 0, 2)),
        (lambda body: with_parts((("n", "looks", body),)), (2, 0, 0, 3, 0, 2)),
        (
            lambda body: with_stages(
                (("forget", "a"),),
                (("lead", "a"), ("class", "b", ("a",), (("m", "value", "w"), ("n", "does", body), ("o", "does", ())))),
            ),
            (2, 1, 1, 3, 1, 2),
        ),
    ]


def part_spots():
    """The same for the step part."""
    return [
        (lambda body: with_part(("n", "does", body)), (2, 0, 0, 2, 2)),
        (lambda body: with_part(("n", "looks", body)), (2, 0, 0, 2, 2)),
        (
            lambda body: with_stages((), (("lead", "a"), ("part", "a", ("n", "does", body)), ("lead", "a")), ()),
            (2, 1, 1, 2, 2),
        ),
    ]


def within_ifs(spots):
    """The same spots, within one if more, on both sides of it."""
    found = []
    for wrap, place in spots:
        found.append((
            lambda body, wrap=wrap: wrap((("if", ("has", "n"), body, ()),)),
            place + (0, 2),
        ))
        found.append((
            lambda body, wrap=wrap: wrap((("drop", "n"), ("if", ("has", "n"), (("drop", "n"),), body), ("say", "a"))),
            place + (1, 3),
        ))
    return found


def spots_up_to(spots, nest):
    """These spots and those within up to nest ifs."""
    found = list(spots)
    for _ in range(nest):
        spots = within_ifs(spots)
        found = found + spots
    return found


def inner_places(value, place=()):
    """The places of the value and of all that is within its tuples."""
    yield place
    if isinstance(value, tuple):
        for at, item in enumerate(value):
            yield from inner_places(item, place + (at,))


def at_place(value, place):
    """What stands at the place."""
    for at in place:
        value = value[at]
    return value


def put_at(value, place, item):
    """The value with the item at the place instead."""
    if not place:
        return item
    return put(value, place[0], put_at(value[place[0]], place[1:], item))


def put(row, at, item):
    """The row with the item at this number instead."""
    return row[:at] + (item,) + row[at + 1:]
