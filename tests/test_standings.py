"""standings, can_stand and way_to over all histories (point 9)."""

import unittest

from acting import NEXT, S, does, klass, looks, make, script_of, value
from crowded import (
    CROWD, CROWDED, DOG, FULL, FULLER, HALF_CROWDED, MORE_OFFERS, SPLIT_FULL, SPLIT_FULLER, TOO_MANY, all_of, split,
    steps_through,
)
from remadeclasses.errors import NoSuch, TooMany
from remadeclasses.plays import play, standings_after
from remadeclasses.scripts import script_error
from remadeclasses.standings import can_stand, standings, way_to
from samples import NO_TUPLES, NO_WORDS, put
from searching import search

NO_STAGES = tuple(item for item in NO_WORDS if repr(item) not in ("0", "1")) + (
    3, 4, -1, 10 ** 29, -10 ** 29, True, False, (0,), [0], "0",
)


class StandingCase(unittest.TestCase):
    def check(self, script, *told):
        """These are the standings for each stage; each of them has a way."""
        self.assertIsNone(script_error(script))
        ahead = repr(script)
        for stage, row in enumerate(told):
            with self.subTest(stage=stage):
                self.assertEqual(repr(standings(script, stage)), repr(tuple(row)))
                self.assertEqual(repr(standings(script, stage)), repr(tuple(row)))
                for standing in row:
                    self.check_way(script, stage, standing)
        self.assertEqual(len(told), len(script[2]))
        everywhere = {standing for row in told for standing in row}
        for stage, row in enumerate(told):
            for standing in sorted(everywhere - set(row)):
                self.check_none(script, stage, standing)
        self.assertEqual(repr(script), ahead)

    def check_way(self, script, stage, standing):
        """The standing can be, and the way to it can be played."""
        self.assertIs(can_stand(script, stage, standing), True)
        way = way_to(script, stage, standing)
        self.assertIs(type(way), tuple)
        self.assertEqual(len([deed for deed in way if deed == NEXT]), stage)
        self.assertIn(standing, standings_after(script, way))
        self.assertEqual(len(play(script, way)), len(way))
        self.assertEqual(repr(way_to(script, stage, standing)), repr(way))

    def check_none(self, script, stage, standing):
        """The standing can not be."""
        with self.subTest(stage=stage, standing=standing):
            ahead = repr(standing)
            self.assertIs(can_stand(script, stage, standing), False)
            self.assertIsNone(way_to(script, stage, standing))
            self.assertEqual(repr(standing), ahead)

    def check_search(self, script, most, most_things=2, most_holds=1):
        """The search finds the very same."""
        found = search(script, most, most_things, most_holds).standings()
        self.check(script, *found)
        return found


class Plain(StandingCase):
    def test_the_document(self):
        adam = (("name", "adam"),)
        self.check(S, (("man", 0, adam),), (("man", 0, adam), ("man", 1, adam), ("man", 1, (("title", "sir"),))))

    def test_there_are_no_things(self):
        self.check(script_of((), ()), ())
        self.check(script_of(("man born make",), (), (), ()), (), (), ())
        self.check(script_of(("man act call",), (klass("man", ""),)), ())
        self.check(script_of(("man born make",), (klass("man", "", value("born", "w")),)), ())

    def test_a_make_by_each_word(self):
        script = script_of(("man born make",), (klass("man", "", does("born", ("keep", "n"))),))
        self.check(script, (("man", 0, (("n", "go"),)), ("man", 0, (("n", "stop"),))))
        born = does("born", ("if", ("told", "go"), (("tell", "n"),), (("keep", "n"),)))
        self.check(script_of(("man born make",), (klass("man", "", born),)), (("man", 0, (("n", "stop"),)),))

    def test_what_a_fault_leaves(self):
        script = script_of(
            ("man act call", "man born make", "man see read"),
            (klass(
                "man", "", does("act", ("put", "n", "w"), ("tell", "m")),
                looks("see", ("put", "o", "w"), ("tell", "m")),
            ),),
        )
        self.check(script, (
            ("man", 0, ()), ("man", 0, (("n", "w"),)), ("man", 0, (("n", "w"), ("o", "w"))), ("man", 0, (("o", "w"),)),
        ))

    def test_a_deed_by_each_word(self):
        act = does("act", ("if", ("told", "stop"), (("put", "n", "w"),), ()))
        script = script_of(("man act call", "man born make"), (klass("man", "", act),))
        self.check(script, (("man", 0, ()), ("man", 0, (("n", "w"),))))
        keep = does("act", ("keep", "n"))
        script = script_of(("man act call", "man born make"), (klass("man", "", keep),))
        self.check(script, (("man", 0, ()), ("man", 0, (("n", "go"),)), ("man", 0, (("n", "stop"),))))

    def test_the_word_is_asked_with_one_guest_only(self):
        act = does("act", ("if", ("guest", "dog"), (("if", ("told", "stop"), (("put", "n", "w"),), ()),), ()))
        script = script_of(
            ("dog born make", "man act call", "man born make"), (klass("man", "", act), klass("dog", "")),
        )
        found = self.check_search(script, 3)
        self.assertIn(("man", 0, (("n", "w"),)), found[0])
        act = does("act", ("if", ("told", "stop"), (("if", ("guest", "dog"), (("put", "n", "w"),), ()),), ()))
        script = script_of(
            ("dog born make", "man act call", "man born make"), (klass("man", "", act), klass("dog", "")),
        )
        self.assertEqual(self.check_search(script, 3), found)

    def test_no_guest_at_all(self):
        act = does("act", ("if", ("guest", "man"), (("put", "n", "w"),), (("put", "m", "w"),)))
        script = script_of(("man act call", "man born make"), (klass("man", "", act),))
        self.check(script, (
            ("man", 0, ()), ("man", 0, (("m", "w"),)), ("man", 0, (("m", "w"), ("n", "w"))), ("man", 0, (("n", "w"),)),
        ))


class Guests(StandingCase):
    def test_only_those_that_can_be_there(self):
        act = does("act", ("if", ("guest", "dog"), (("put", "n", "w"),), ()))
        steps = (klass("man", "", act), klass("dog", ""))
        script = script_of(("man act call", "man born make"), steps)
        self.check(script, (("man", 0, ()),))
        script = script_of(
            ("dog born make", "man act call", "man born make"), steps,
            (("part", "man", does("act", ("put", "m", "w"))),),
        )
        self.check_search(script, 5)

    def test_a_guest_whose_make_is_always_a_fault(self):
        act = does("act", ("if", ("guest", "dog"), (("put", "n", "w"),), ()))
        dog = klass("dog", "", does("born", ("tell", "n")))
        self.check(
            script_of(("dog born make", "man act call", "man born make"), (klass("man", "", act), dog)),
            (("man", 0, ()),),
        )

    def test_a_guest_that_must_have_been_led(self):
        # The elder dog is no guest any more where it was led; the newer cannot be made.
        act = does("act", ("if", ("guest", "dog"), (("put", "n", "w"),), ()))
        script = script_of(
            ("dog born make", "man act call", "man born make"),
            (klass("man", ""), klass("dog", "")),
            (klass("dog", "", value("born", "w")), ("lead", "dog"), ("part", "man", act)),
        )
        found = self.check_search(script, 4)
        self.assertIn(("man", 0, (("n", "w"),)), found[1])

    def test_a_guest_that_was_changed_by_a_guest(self):
        # In stage 1 the guest of a man must be a dog that was led; it may have met a
        # cat as its guest ahead of that. In stage 2 men are guests of such a dog.
        script = script_of(
            ("cat born make", "dog act call", "dog born make", "man act call", "man born make"),
            (
                klass("cat", ""), klass("dog", "", does("act", ("if", ("guest", "cat"), (("put", "n", "w"),), ()))),
                klass("man", ""),
            ),
            (
                klass("dog", "dog", value("born", "w")), ("lead", "dog"),
                ("part", "man", does("act", ("if", ("guest", "dog"), (("put", "n", "w"),), ()))),
            ),
            (("part", "dog", does("act", ("if", ("guest", "man"), (("put", "m", "w"),), ()))), ("clear", "dog", "o")),
        )
        self.check(
            script,
            (("cat", 0, ()), ("dog", 0, ()), ("dog", 0, (("n", "w"),)), ("man", 0, ())),
            (
                ("cat", 0, ()), ("dog", 0, ()), ("dog", 0, (("n", "w"),)), ("dog", 1, ()), ("dog", 1, (("n", "w"),)),
                ("man", 0, ()), ("man", 0, (("n", "w"),)),
            ),
            (
                ("cat", 0, ()), ("dog", 0, ()), ("dog", 0, (("n", "w"),)),
                ("dog", 1, ()), ("dog", 1, (("m", "w"),)), ("dog", 1, (("m", "w"), ("n", "w"))),
                ("dog", 1, (("n", "w"),)),
                ("man", 0, ()), ("man", 0, (("n", "w"),)),
            ),
        )

    def test_a_guest_that_has_its_own_guest(self):
        # A dog that never met a cat is covered by one that did: that one's act could
        # be held for a while. In stage 1 no dogs are made.
        dog = klass(
            "dog", "", does("act", ("put", "act", "x")), does("born", ("put", "act", "x")),
            does("open", ("if", ("guest", "cat"), (("drop", "act"),), ())),
        )
        script = script_of(
            (
                "cat born make", "dog act call", "dog born make", "dog open call", "man act call", "man born make",
            ),
            (klass("cat", ""), dog, klass("man", "")),
            (
                ("part", "dog", value("born", "v")),
                ("part", "man", does("act", ("if", ("guest", "dog"), (("put", "n", "w"),), ()))),
            ),
        )
        none, act = ("dog", 0, ()), ("dog", 0, (("act", "x"),))
        self.check(
            script, (("cat", 0, ()), none, act, ("man", 0, ())),
            (("cat", 0, ()), none, act, ("man", 0, ()), ("man", 0, (("n", "w"),))),
        )

    def test_no_guest_of_a_stage_behind(self):
        # In stage 0 there are no dogs yet; in stage 1 the body that was held meets them.
        act = does("act", ("if", ("guest", "dog"), (("put", "n", "w"),), ()))
        script = script_of(
            ("dog born make", "man act call", "man born make"),
            (klass("man", "", act),), (klass("dog", ""), klass("man", ""), ("lead", "man")),
        )
        found = self.check_search(script, 5)
        self.assertEqual(found[0], (("man", 0, ()),))
        self.assertIn(("man", 1, (("n", "w"),)), found[1])

    def test_no_guest_of_a_class_that_no_thing_has_any_more(self):
        # All dogs that were pets are led, and no more of them can be made.
        act = does("act", ("if", ("guest", "pet"), (("put", "n", "w"),), ()))
        pets = (klass("pet", ""), klass("dog", "pet"), klass("man", ""))
        last = (klass("dog", ""), ("lead", "dog"), ("part", "man", act))
        offers = ("dog born make", "man act call", "man born make")
        found = self.check_search(script_of(offers, pets, (("part", "dog", value("born", "v")),) + last), 4)
        self.assertNotIn(("man", 0, (("n", "w"),)), found[1])
        # If they can be made, one of them is a guest.
        found = self.check_search(script_of(offers, pets, last), 4)
        self.assertIn(("man", 0, (("n", "w"),)), found[1])


class Holds(StandingCase):
    def test_a_body_that_is_held_over_a_stage(self):
        script = script_of(
            ("man act call", "man born make"), (klass("man", "", does("act", ("keep", "n"))),),
            (("cut", "man", "act"), klass("man", "")), (("lead", "man"),),
        )
        found = self.check_search(script, 5)
        self.assertIn(("man", 1, (("n", "stop"),)), found[2])

    def test_a_body_that_was_not_there_to_be_held(self):
        # act is behind the own field act as long as it is part of the class.
        born = does("born", ("put", "act", "x"))
        act = does("act", ("put", "n", "w"))
        script = script_of(
            ("man act call", "man born make"), (klass("man", "", act, born),),
            (("clear", "man", "act"), ("cut", "man", "act")),
        )
        self.check(script, (("man", 0, (("act", "x"),)),), (("man", 0, ()), ("man", 0, (("act", "x"),))))
        script = script_of(
            ("man act call", "man born make"), (klass("man", "", act, born),),
            (("clear", "man", "act"),), (("cut", "man", "act"),),
        )
        found = self.check_search(script, 6)
        self.assertIn(("man", 0, (("n", "w"),)), found[2])

    def test_two_bodies_of_which_a_thing_has_one(self):
        one, other = does("one", ("put", "n", "w")), does("other", ("put", "m", "w"))
        born = does("born", ("if", ("told", "go"), (("put", "one", "x"),), (("put", "other", "x"),)))
        script = script_of(
            ("man born make", "man one call", "man other call"), (klass("man", "", born, one, other),),
            tuple(("part", "man", value(n, "v")) for n in ("one", "other", "born")),
            (("clear", "man", "one"), ("clear", "man", "other"), ("clear", "man", "n"), ("clear", "man", "m")),
        )
        found = self.check_search(script, 6, most_things=1, most_holds=2)
        self.assertEqual(found[2], (("man", 0, ()), ("man", 0, (("m", "w"),)), ("man", 0, (("n", "w"),))))

    def test_two_bodies_that_are_both_needed(self):
        script = script_of(
            ("man born make", "man one call", "man other call"),
            (klass("man", "", does("one", ("put", "n", "w")), does("other", ("put", "m", "w"))),),
            (("cut", "man", "one"), ("cut", "man", "other"), ("clear", "man", "n"), ("clear", "man", "m")),
        )
        found = self.check_search(script, 6, most_things=1, most_holds=2)
        self.assertIn(("man", 0, (("m", "w"), ("n", "w"))), found[1])

    def test_a_ring_with_a_guest_and_a_word(self):
        act = does("act", ("if", ("guest", "dog"), (("keep", "n"),), (("put", "m", "w"),)))
        script = script_of(
            ("dog born make", "man act call", "man born make"), (klass("man", "", act), klass("dog", "")),
            (("cut", "man", "act"), ("clear", "man", "n"), ("clear", "man", "m")),
        )
        self.check_search(script, 6)

    def test_only_what_is_offered_is_held(self):
        script = script_of(
            ("man born make", "man one call", "man two read"),
            (klass("man", "", does("one", ("put", "n", "w")), does("two", ("put", "m", "w"))),),
            (("cut", "man", "one"), ("cut", "man", "two"), ("clear", "man", "n")),
        )
        found = self.check_search(script, 5)
        self.assertEqual(found[1], (("man", 0, ()), ("man", 0, (("n", "w"),))))

    def test_a_body_held_that_opens_another(self):
        # act drops the own field that is ahead of more, which only then can be held.
        script = script_of(
            ("man act call", "man born make", "man more call"),
            (klass(
                "man", "", does("act", ("drop", "more")), does("born", ("put", "more", "x")),
                does("more", ("keep", "n")),
            ),),
            (klass("man", "", value("born", "v")), ("lead", "man")),
        )
        found = self.check_search(script, 7, most_things=1, most_holds=2)
        self.assertIn(("man", 1, (("n", "stop"),)), found[1])


class Searched(StandingCase):
    """Other scripts, against the search."""

    SCRIPTS = (
        (script_of(
            ("man act call", "man born make", "man see read"),
            (klass(
                "man", "", does("act", ("if", ("has", "n"), (("drop", "n"),), (("keep", "n"),))),
                looks("see", ("put", "m", "w")),
            ),),
            (("fill", "man", "o", "w"), ("part", "man", looks("n"))),
        ), 7, 1, 1),
        (script_of(
            ("man act call", "man born make", "pup act call", "pup born make"),
            (
                klass("dog", "", does("act", ("put", "n", "w"))),
                klass("man", "", does("act", ("put", "n", "x"), ("do", ("base", "dog", "act")))),
                klass("pup", "dog", does(
                    "act", ("if", ("guest", "man"), (("give", ("up", "act")),), (("put", "m", "x"),)),
                )),
            ),
            (("rebase", "pup", ("man",)), ("fill", "dog", "o", "w"), ("clear", "man", "n")),
        ), 5, 2, 1),
        (script_of(
            ("man act call", "man born make"),
            (klass("man", "", does("act", ("if", ("kin", "man"), (("put", "n", "w"),), (("put", "m", "w"),)))),),
            (klass("man", "", does("act", ("put", "o", "w"))),),
            (("lead", "man"), ("forget", "man")),
        ), 6, 1, 1),
        (script_of(
            ("man act call", "man born make", "man go call"),
            (klass(
                "man", "", does("act", ("do", ("own", "go")), ("put", "n", "w")), does("go", ("do", ("own", "go"))),
            ),),
            (("part", "man", does("go", ("keep", "m"), ("tell", "none"))), ("cut", "man", "none")),
            (("part", "man", does("go", ("if", ("is", "m", "go"), (("drop", "m"),), ()))),),
        ), 8, 1, 1),
    )

    def test_they_are_the_same(self):
        for script, most, most_things, most_holds in self.SCRIPTS:
            self.check_search(script, most, most_things, most_holds)


class AnyValue(StandingCase):
    def test_what_is_no_standing(self):
        script = script_of(
            ("dog born make", "man born make"), (klass("dog", ""), klass("man", "", does("born", ("put", "n", "w")))),
            (klass("man", "", does("born", ("put", "m", "v"), ("put", "n", "w"))),),
        )
        right = ("man", 1, (("m", "v"), ("n", "w")))
        self.check_way(script, 1, right)
        self.check_none(script, 0, right)
        for item in NO_TUPLES + NO_WORDS + ((), ("man",), ("man", 1), right + ((),), list(right), (right,)):
            self.check_none(script, 1, item)
        for at in range(3):
            for item in NO_TUPLES + NO_WORDS + (2, -1, True, ("m", "v"), (("m", "v"),), "dog", 10 ** 29):
                if repr(put(right, at, item)) != repr(right):
                    self.check_none(script, 1, put(right, at, item))
        for fields in (
            (("m", "v"),), (("n", "w"), ("m", "v")), (("m", "v"), ("n", "w"), ("n", "w")),
            (("m", "v"), ("n", "w", "x")),
            (("m", "v"), ["n", "w"]), [("m", "v"), ("n", "w")], (("m", "v"), ("n", "v")), (("m", "v"), ("o", "w")),
            {"m": "v", "n": "w"}, ("mv", "nw"), (("m", "v"), ("n", "w"), ("o", "w")), (("m", "v"), ("n", None)),
            (("m", []), ("n", "w")), (([], "v"), ("n", "w")), (({}, {}),), ((1, 2),), (("m", 1), (2, "w")),
        ):
            self.check_none(script, 1, put(right, 2, fields))

    def test_true_and_false_are_no_numbers(self):
        script = script_of(("man born make",), (klass("man", ""),), (klass("man", ""),))
        self.check(script, (("man", 0, ()),), (("man", 0, ()), ("man", 1, ())))
        for number in (True, False):
            self.check_none(script, 1, ("man", number, ()))

    def test_no_stage(self):
        for many in (1, 2, 3):
            script = script_of(("man born make",), *[(klass("man", ""),)] * many)
            for stage in NO_STAGES + ((1,) if many == 1 else ()) + ((2,) if many < 3 else ()):
                self.check_no_stage(script, stage)

    def check_no_stage(self, script, stage):
        for asked in (standings, can_stand, way_to):
            told = (script, stage) if asked is standings else (script, stage, ("man", 0, ()))
            with self.subTest(asked=asked, stage=stage):
                with self.assertRaises(NoSuch) as caught:
                    asked(*told)
                self.assertIs(caught.exception.value, stage)


class Most(StandingCase):
    """60 entries are not too many, 61 are."""

    ASKED = (
        lambda script, stage: standings(script, stage),
        lambda script, stage: can_stand(script, stage, ("man", 0, ())),
        lambda script, stage: can_stand(script, stage, []),
        lambda script, stage: way_to(script, stage, ("man", 0, ())),
        lambda script, stage: way_to(script, stage, None),
    )

    def check_too_many(self, script):
        self.assertIsNone(script_error(script))
        for stage in range(len(script[2])):
            for at, asked in enumerate(self.ASKED):
                with self.subTest(stage=stage, at=at), self.assertRaises(TooMany):
                    asked(script, stage)
        # NoSuch goes ahead.
        for stage in (len(script[2]), True, None, -1):
            for asked in self.ASKED:
                with self.assertRaises(NoSuch):
                    asked(script, stage)

    def test_as_many_standings(self):
        self.assertEqual(len(CROWDED), 60)
        self.assertEqual(standings(FULL, 0), CROWDED)
        for standing in CROWDED[::7]:
            self.check_way(FULL, 0, standing)
        # Without the offer nobody makes a dog.
        self.check_too_many(FULLER)

    def test_in_some_stage(self):
        self.assertEqual(len(standings(script_of(MORE_OFFERS, (), (CROWD,), ()), 1)), 60)
        for script in TOO_MANY:
            self.check_too_many(script)
        few = script_of(MORE_OFFERS, (DOG,), (klass("dog", "", value("born", "w")),), ())
        self.assertEqual(standings(few, 2), (("dog", 0, ()),))

    def test_entries_and_not_standings_are_counted(self):
        self.assertEqual(len(HALF_CROWDED), 30)
        self.assertEqual(standings(SPLIT_FULL, 2), HALF_CROWDED)
        self.assertEqual(len(standings(SPLIT_FULL, 1)), 60)
        for standing in HALF_CROWDED[::5]:
            self.check_way(SPLIT_FULL, 2, standing)
        self.check_too_many(SPLIT_FULLER)

    def test_what_is_covered_is_not_counted(self):
        # By one a man loses the own field other, and then both can be held of it.
        stepped = (steps_through("a", "p", "q", "r", "s"), steps_through("b", "p"), steps_through("c", "p"))
        twenty = all_of(("a", "pqrs"), ("b", "p"), ("c", "p"))
        self.assertEqual(len(twenty), 20)
        script = split(*stepped, one=(("drop", "other"),), last=(DOG,))
        self.assertEqual(len(standings(script, 0)), 60)
        self.assertEqual(len(standings(script, 1)), 60)
        self.assertEqual(standings(script, 2), (("dog", 0, ()),) + twenty)
