"""shut_error: whether any value is a shut table (point 11)."""

import unittest

from acting import S, does, klass, looks, script_of, value
from crowded import CROWDED, FULL, FULLER, SPLIT_FULL, SPLIT_FULLER, TOO_MANY
from remadeclasses.plays import Play
from remadeclasses.scripts import script_error
from remadeclasses.tables import shut_error, table_of
from samples import NO_TUPLES, NO_WORDS

TABLE = (-1, "table")


class Looked:
    """A stage of a table, asked by plays of single deeds."""

    def __init__(self, script, table, stage):
        self.words, self.offers, _ = script
        self.table = table
        self.stage = stage
        self.done = Play(script)
        self.guests = sorted({standing[:2] for standing, _ in table[stage]})

    def is_covered(self, standing, held):
        """Whether an entry covers the standing with what was and what can be held."""
        held = set(held) | self.held_of(standing)
        return any(standing == other and held <= set(places) for other, places in self.table[self.stage])

    def held_of(self, standing):
        self.done.stage = self.stage
        self.done.things = [standing]
        self.done.holds = []
        for c, n, way in self.offers:
            if c == standing[0] and way == "call":
                self.done.do_deed(("hold", 0, n))
        return {part.place for _, part in self.done.holds}

    def made(self):
        """What the makes give."""
        for c, number in self.done.states[self.stage].seen:
            for w in self.words:
                self.done.stage = self.stage
                self.done.things = []
                deed = ("make", c, number, w)
                if self.done.lets(deed) and self.done.do_deed(deed)[0] == "thing":
                    yield self.done.things[0], ()

    def become(self):
        """What the entries of the stage ahead become."""
        for standing, held in self.table[self.stage - 1] if self.stage > 0 else ():
            self.done.stage = self.stage - 1
            self.done.things = [standing]
            self.done.do_deed(("next",))
            yield self.done.things[0], held

    def come(self):
        """What one comes on to."""
        for standing, held in self.table[self.stage]:
            for deed in self.deeds(standing, held):
                self.done.stage = self.stage
                self.done.things = [standing] + [guest + ((),) for guest in self.guests]
                self.done.holds = [(0, self.done.present().placed[place]) for place in held]
                assert self.done.lets(deed), deed
                self.done.do_deed(deed)
                yield self.done.things[0], held

    def deeds(self, standing, held):
        guests = (None,) + tuple(range(1, len(self.guests) + 1))
        for c, n, way in self.offers:
            if c == standing[0] and way == "read":
                yield ("read", 0, n)
            if c == standing[0] and way == "call":
                yield from [("call", 0, n, w, guest) for w in self.words for guest in guests]
        for h in range(len(held)):
            yield from [("ring", h, w, guest) for w in self.words for guest in guests]


def asked_by_plays(script, table):
    """What shut_error must tell of a table."""
    for stage in range(len(table)):
        looked = Looked(script, table, stage)
        for why in ("make", "become", "come"):
            come = {"make": looked.made, "become": looked.become, "come": looked.come}[why]
            if not all([looked.is_covered(standing, held) for standing, held in list(come())]):
                return stage, why
    return None


class ShutCase(unittest.TestCase):
    def check(self, script, table, told):
        """This is told of the table."""
        with self.subTest(table=table):
            ahead = repr((script, table))
            for _ in range(2):
                self.assertEqual(repr(shut_error(script, table)), repr(told))
            self.assertEqual(repr((script, table)), ahead)

    def check_plays(self, script, table):
        """What is told is what plays show."""
        told = asked_by_plays(script, table)
        self.check(script, table, told)
        return told

    def check_less(self, script):
        """Of the least table nothing can be taken away; what is told is collected."""
        self.assertIsNone(script_error(script))
        table = table_of(script)
        self.check(script, table, None)
        told = set()
        for stage, rows in enumerate(table):
            for at, (standing, held) in enumerate(rows):
                told.add(self.check_plays(script, change(table, stage, rows[:at] + rows[at + 1:])))
                for place in held:
                    less = (standing, tuple(other for other in held if other != place))
                    if less not in rows:
                        told.add(self.check_plays(script, change(table, stage, put_in(rows, less, at))))
        self.assertNotIn(None, told)
        return told


def change(table, stage, rows):
    """The table with other entries for a stage."""
    return table[:stage] + (rows,) + table[stage + 1:]


def put_in(rows, entry, at=None):
    """The entries with one more, in the place of one of them if that is told."""
    left = rows if at is None else rows[:at] + rows[at + 1:]
    return tuple(sorted(left + (entry,)))


# A man that can be made with or without n, becomes another one in stage 1, and
# comes to m by act; more is of the class dog, which has no things.
PLAIN = script_of(
    ("dog act call", "man act call", "man born make", "man see read"),
    (
        klass("dog", "", does("act"), does("more"), looks("view"), value("val", "w")),
        klass("man", "", does("act", ("put", "m", "w")), does("born", ("if", ("told", "go"), (("put", "n", "w"),), ())),
              looks("see", ("put", "o", "w"))),
    ),
    (klass("man", "", does("act", ("drop", "m"))), ("lead", "man"), ("cut", "man", "void"), ("forget", "man")),
)


class Shut(ShutCase):
    def test_the_document(self):
        table = table_of(S)
        self.check(S, table, None)
        self.check(S, ((), ()), (0, "make"))
        self.check(S, (table[0], ()), (1, "make"))
        self.check(S, (table[0], table[1][:1]), (1, "make"))
        self.check(S, (table[0], table[1][2:]), (1, "make"))
        self.check(S, (table[0], table[1][:1] + table[1][2:]), (1, "become"))
        self.assertEqual(self.check_less(S), {(0, "make"), (1, "make"), (1, "become")})

    def test_greater_tables(self):
        table = table_of(S)
        held = ((0, 0, 0), (0, 0, 1), (1, 0, 0), (1, 0, 1))
        for stage, rows in enumerate(table):
            for standing, places in rows:
                less = (standing, places[:-1])
                if less not in rows:
                    self.check(S, change(table, stage, put_in(rows, less)), None)
        # All bodies held of all things; they come to what they were.
        every = (table[0][0][0], held[:2])
        both = ("man", 1, (("name", "adam"), ("title", "sir")))
        rows = tuple(sorted((standing, held) for standing in {standing for standing, _ in table[1]}))
        self.check(S, ((every,), rows), (1, "come"))
        more = (both, ("man", 0, both[2]), ("man", 0, (("title", "sir"),)))
        self.check(S, ((every,), tuple(sorted(rows + tuple((standing, held) for standing in more)))), None)

    def test_what_no_thing_can_be(self):
        # A man that nobody can come to is right if all that he comes to is there.
        table = table_of(PLAIN)
        standing = ("man", 0, (("z", "x"),))
        born = ("man", 0, (("n", "w"), ("z", "x")))
        alone = change(table, 0, put_in(table[0], (standing, ((0, 1, 0),))))
        self.assertEqual(self.check_plays(PLAIN, alone), (0, "come"))
        self.assertIsNone(shut_error(PLAIN, table))
        dogs = put_in(table[0], (("dog", 0, ()), ((0, 0, 0),)))
        self.assertEqual(self.check_plays(PLAIN, change(table, 0, dogs)), (1, "become"))
        self.check(PLAIN, (dogs, put_in(table[1], (("dog", 0, ()), ((0, 0, 0),)))), None)
        self.check_plays(PLAIN, change(table, 0, put_in(table[0], (born, ()))))

    def test_each_is_needed(self):
        told = self.check_less(PLAIN)
        self.assertEqual(told, {(0, "make"), (0, "come"), (1, "make"), (1, "become"), (1, "come")})

    def test_the_first_stage_that_has_one(self):
        script = script_of(
            ("man act call", "man born make"), (klass("man", "", does("act", ("put", "n", "w"))),),
            (klass("man", ""), ("lead", "man")), (),
        )
        table = table_of(script)
        self.check(script, ((), (), ()), (0, "make"))
        self.check(script, (table[0][:1], (), ()), (0, "come"))
        self.check(script, (table[0], (), ()), (1, "make"))
        # What is made in stage 1 is there, but not what one comes to or becomes.
        elder = (("man", 0, ()), ((0, 0, 0),))
        self.check(script, (table[0], (elder, (("man", 1, ()), ())), ()), (1, "become"))
        newer = (("man", 1, ()), ((0, 0, 0),))
        self.check(script, (table[0], (elder, newer), ()), (1, "become"))
        with_n = (("man", 1, (("n", "w"),)), ((0, 0, 0),))
        self.check(script, (table[0], (elder, newer, with_n), ()), (1, "come"))
        self.check(script, table[:2] + ((),), (2, "make"))
        self.assertEqual(self.check_less(script), {
            (0, "make"), (0, "come"), (1, "make"), (1, "become"), (1, "come"), (2, "make"), (2, "become"),
        })

    def test_what_can_be_held(self):
        # What a make begins, what one comes to and what it becomes has all that can be
        # held, but an entry of the table may have less.
        script = script_of(
            ("man act call", "man born make", "man more call"),
            (klass(
                "man", "", does("act", ("if", ("has", "more"), (("drop", "more"),), ())),
                does("born", ("put", "more", "x")), does("more"),
            ),),
            (("part", "man", does("more")), ("part", "man", value("born", "w"))),
        )
        table = table_of(script)
        self.assertEqual(self.check_less(script), {(0, "make"), (0, "come"), (1, "become")})
        self.check(script, change(table, 0, put_in(table[0], (("man", 0, (("more", "x"),)), ()))), None)

    def test_guests_are_those_of_the_table(self):
        # Without a dog among its own entries the man never meets one.
        act = does("act", ("if", ("guest", "dog"), (("put", "n", "w"),), ()))
        script = script_of(
            ("dog act call", "man act call", "man born make"),
            (klass("dog", "", does("act")), klass("man", "", act)), (),
        )
        dog, man = (("dog", 0, ()), ((0, 0, 0),)), (("man", 0, ()), ((0, 1, 0),))
        met = (("man", 0, (("n", "w"),)), ((0, 1, 0),))
        self.check(script, ((man,), (man,)), None)
        self.check(script, ((dog, man), (dog, man)), (0, "come"))
        self.check(script, ((dog, man, met), (man, met)), (1, "become"))
        self.check(script, ((man,), (dog, man)), (1, "come"))
        self.check(script, ((man,), (dog, man, met)), None)
        # Of this stage, not of the one ahead.
        gone = script_of(
            ("dog act call", "dog born make", "man act call", "man born make"),
            (klass("dog", "", does("act")), klass("man", "")),
            (klass("dog", "", value("born", "w")), ("lead", "dog"), ("part", "man", act), ("rebase", "man", ())),
        )
        self.check_less(gone)
        only = script_of(
            ("dog born make", "man act call", "man born make"),
            (klass("pet", ""), klass("dog", "pet"), klass("man", "")),
            (klass("dog", ""), ("lead", "dog"), ("part", "dog", value("born", "w")),
             ("part", "man", does("act", ("if", ("guest", "pet"), (("put", "n", "w"),), ())))),
        )
        self.check_less(only)

    def test_places_of_other_bodies(self):
        # A body of dog that is held of a man is run for the man.
        table = table_of(PLAIN)
        for place in ((0, 0, 0), (0, 0, 1), (0, 1, 1)):
            for stage in (0, 1):
                for at, (standing, held) in enumerate(table[stage]):
                    more = (standing, tuple(sorted(set(held) | {place})))
                    self.check_plays(PLAIN, change(table, stage, put_in(table[stage], more, at)))

    def test_other_scripts(self):
        for script in (
            script_of(
                ("man act call", "man born make", "pup act call", "pup born make", "pup see read"),
                (
                    klass("dog", "", does("act", ("put", "n", "w")), looks("see", ("put", "o", "w"))),
                    klass("man", "", does("act", ("put", "n", "x"), ("do", ("base", "dog", "act")))),
                    klass("pup", "dog", does(
                        "act", ("if", ("guest", "man"), (("give", ("up", "act")),), (("put", "m", "x"),)),
                    )),
                ),
                (("rebase", "pup", ("man",)), ("fill", "dog", "o", "w"), ("clear", "man", "n")),
            ),
            script_of(
                ("man act call", "man born make", "man go call"),
                (klass("man", "", does("act", ("do", ("own", "go"))), does("born", ("keep", "n"))),),
                (("part", "man", does("go", ("keep", "n"), ("tell", "none"))), ("forget", "man")),
                (klass("man", "", does("act", ("if", ("has", "n"), (("drop", "n"),), ()))), ("lead", "man")),
            ),
        ):
            self.check_less(script)

    def test_a_make_that_is_a_fault_begins_nothing(self):
        born = does("born", ("if", ("told", "go"), (("put", "n", "w"), ("tell", "none")), ()))
        script = script_of(("man born make",), (klass("man", "", born),))
        self.check(script, (((("man", 0, ()), ()),),), None)
        self.check(script, ((),), (0, "make"))
        none = script_of(("man born make",), (klass("man", "", does("born", ("tell", "none"))),))
        self.check(none, ((),), None)

    def test_the_empty_table(self):
        for script in (script_of((), ()), script_of(("man act call",), (klass("man", "", does("act")),))):
            self.check(script, ((),), None)
            self.check(script, (), TABLE)
            self.check(script, ((), ()), TABLE)


class Most(ShutCase):
    """Never are there too many entries."""

    def test_more(self):
        places = ((0, 0, 0), (0, 0, 1), (0, 0, 2))
        men = tuple((standing, places) for standing in CROWDED)
        self.check(FULL, (men,), None)
        dog = (("dog", 0, ()), ())
        self.check(FULLER, ((dog,) + men,), None)
        self.check(FULLER, (men,), (0, "make"))
        self.check(FULLER, ((dog,) + men[1:],), (0, "make"))
        self.check(FULLER, ((dog,) + men[:-1],), (0, "come"))
        table = table_of(SPLIT_FULL)
        self.check(SPLIT_FULLER, change(table, 2, (dog,) + table[2]), None)
        self.check(SPLIT_FULLER, table, (2, "make"))
        self.check(SPLIT_FULLER, change(table, 2, (dog,) + table[2][1:]), (2, "become"))
        # All that is covered, too.
        less = {(standing, held[:-1]) for standing, held in men}
        self.check(FULLER, (tuple(sorted({dog} | set(men) | less)),), None)

    def test_any_value(self):
        for script in TOO_MANY:
            for item in NO_TUPLES + ((),):
                self.check(script, item, TABLE)
            self.check(script, ((),) * len(script[2]), (0 if script[2][0] else 1, "make"))


class AnyValue(ShutCase):
    def check_tables(self, script, tables):
        self.assertIsNone(script_error(script))
        self.check(script, table_of(script), None)
        for table in tables:
            self.check(script, table, TABLE)

    def test_no_tuples(self):
        one, two = table_of(PLAIN)
        self.check_tables(PLAIN, NO_TUPLES + NO_WORDS + (
            [one, two], (one,), (one, two, ()), (one, two, two), (one, list(two)), ([], two), (one, {}), (one, None),
            ((one, two),), (one, "entries"), {"0": one, "1": two}, (two, one),
        ))
        for item in NO_TUPLES + NO_WORDS:
            self.check_tables(PLAIN, [table for table in ((item, two), (one, item)) if () not in table])

    def test_no_entries(self):
        one, two = table_of(PLAIN)
        for item in NO_TUPLES + NO_WORDS + ((), (one[0][0],), one[0] + ((),), list(one[0]), (one[0],)):
            self.check_tables(PLAIN, ((one, two[:1] + (item,) + two[1:]), ((item,), two), (one[:-1] + (item,), two)))

    def test_no_standings(self):
        one, two = table_of(PLAIN)
        held = one[0][1]
        for standing in NO_TUPLES + NO_WORDS + (
            (), ("man",), ("man", 0), ("man", 0, (), ()), ["man", 0, ()], (0, "man", ()), ("man", (), 0),
            ("man", True, ()), ("man", False, ()), ("man", -1, ()), ("man", 10 ** 29, ()), ("man", "0", ()),
            ("man", None, ()), ("Man", 0, ()), ("", 0, ()), (0, 0, ()), (("man",), 0, ()), (["man"], 0, ()),
            ("man", [0], ()), ("man", (0,), ()), ("man", {}, ()), ("man", 0, []), ("man", 0, None), ("man", 0, {}),
            ("man", 0, ("n",)), ("man", 0, ("n", "w")), ("man", 0, (("n",),)), ("man", 0, (("n", "w", "w"),)),
            ("man", 0, (["n", "w"],)), ("man", 0, (("n", 1),)), ("man", 0, ((1, "w"),)), ("man", 0, (("n", "W"),)),
            ("man", 0, (("", "w"),)), ("man", 0, (("n", ""),)), ("man", 0, (("n", None),)), ("man", 0, [("n", "w")]),
            ("man", 0, (("n", "w"), ("n", "w"))), ("man", 0, (("n", "w"), ("n", "x"))),
            ("man", 0, (("n", "w"), ("m", "w"))), ("man", 0, (([], "w"),)), ("man", 0, (("n", {}),)),
        ):
            self.check_tables(PLAIN, ((((standing, held),), two), (one, ((standing, held),))))

    def test_any_words_are_right(self):
        script = script_of(("man born make",), (klass("man", ""),))
        rows = ((("man", 0, ()), ()), (("man", 0, (("any", "word"), ("other", "go"))), ()))
        self.check(script, (rows,), None)

    def test_a_class_that_is_not_made_by_then(self):
        one, two = table_of(PLAIN)
        for rows in (
            put_in(one, (("man", 1, ()), ())), put_in(one, (("cat", 0, ()), ())), put_in(one, (("dog", 1, ()), ())),
        ):
            self.check_tables(PLAIN, ((rows, two),))
        # The man of stage 1 is made by then, the third one never.
        self.check_tables(PLAIN, ((one, put_in(two, (("man", 2, ()), ()))), (one, put_in(two, (("cat", 0, ()), ())))))
        # A class whose step failed, and one behind it, are none; a class without a
        # name is one.
        script = script_of(
            ("man born make",), (klass("man", ""), ("forget", "man"), klass("dog", "cat"), klass("cat", "")),
        )
        self.assertEqual(shut_error(script, (((("man", 0, ()), ()),),)), None)
        self.check_tables(script, ((((("dog", 0, ()), ()),),), (((("cat", 0, ()), ()),),)))

    def test_order_and_twice(self):
        one, two = table_of(PLAIN)
        self.assertGreater(len(one), 1)
        self.check_tables(PLAIN, (
            (one[::-1], two), (one, two[::-1]), (one + one[-1:], two), (one[:1] + one, two), (one, two + two),
            (one, two[1:] + two[:1]), (one[1:2] + one[:1] + one[2:], two),
        ))

    def test_held(self):
        one, two = table_of(PLAIN)
        standing = one[0][0]
        right, more = (0, 1, 0), (0, 0, 1)
        self.check_plays(PLAIN, (put_in(one, (standing, (more, right)), 0), two))
        for held in NO_TUPLES + NO_WORDS + (
            [right], (list(right),), right, (right, right), (right, more), (more, right, more), ((0, 1),),
            ((0, 1, 0, 0),), ((False, 1, 0),), ((0, True, 0),), ((0, 1, False),), ((0, "1", 0),), ((0, None, 0),),
            (None,), ((),), ([],),
            ({},), ("act",), (0,), (((0, 1, 0),),), ((0, [1], 0),), ((-1, 1, 0),), ((0, 1, 10 ** 29),),
        ):
            if held != ():
                self.check_tables(PLAIN, ((put_at(one, held), two), (one, put_at(two, held))))

    def test_bodies_that_cannot_be_held(self):
        one, two = table_of(PLAIN)
        # Of a looks, of a value, of no part, of a step without parts, of no step.
        for place in (
            (0, 0, 2), (0, 0, 3), (0, 0, 4), (0, 1, 2), (0, 1, 3), (0, 2, 0), (1, 1, 0), (1, 2, 0), (2, 0, 0),
        ):
            self.check_tables(PLAIN, ((put_at(one, (place,)), two), (one, put_at(two, (place,)))))
        # Of a step that is run in the stage behind.
        self.check_tables(PLAIN, ((put_at(one, ((1, 0, 0),)), two),))
        self.check_plays(PLAIN, (one, put_at(two, ((1, 0, 0),))))

    def test_bodies_of_steps_that_were_not_run(self):
        script = script_of(
            ("man act call", "man born make"),
            (klass("man", "", does("act")), klass("dog", "cat", does("act")), ("part", "man", does("more"))),
            (("part", "cat", does("act")), ("part", "man", does("act"))),
            (("part", "man", does("act")), ("cut", "man", "act"), ("cut", "man", "act"), ("part", "man", does("act"))),
        )
        held = ((0, 0, 0),)
        man = ("man", 0, ())
        rows = ((man, held),)
        self.check(script, (rows, rows, rows), None)
        for place in ((0, 1, 0), (0, 2, 0), (1, 0, 0), (1, 1, 0), (2, 3, 0)):
            self.check(script, (rows, rows, ((man, held + (place,)),)), TABLE)
        self.check(script, (rows, rows, ((man, held + ((2, 0, 0),)),)), None)
        self.check(script, (rows, ((man, held + ((2, 0, 0),)),), rows), TABLE)


def put_at(rows, held):
    """The entries with something else held of the first one."""
    return ((rows[0][0], held),) + rows[1:]


if __name__ == "__main__":
    unittest.main()
