"""alike: whether outsiders can tell two scripts apart (point 12)."""

import unittest

from acting import NEXT, S, call, does, klass, looks, make, ring, script_of, value
from crowded import CROWD, DOG, FULL, FULLER, MORE_OFFERS, SPLIT_FULL, SPLIT_FULLER, steps_through
from remadeclasses.compare import alike
from remadeclasses.errors import TooMany, Unlike
from remadeclasses.plays import play
from remadeclasses.scripts import script_error
from remadeclasses.tables import table_of
from samples import RICH

OFFERS = ("man act call", "man born make")


def man_of(*body, more=()):
    """A man who acts so."""
    return klass("man", "", does("act", *body), *more)


class CompareCase(unittest.TestCase):
    def check_alike(self, one, other):
        """Nobody can tell them apart."""
        for script, another in ((one, other), (other, one)):
            self.assertIsNone(script_error(script))
            ahead = repr((script, another))
            self.assertIsNone(alike(script, another))
            self.assertIsNone(alike(script, another))
            self.assertEqual(repr((script, another)), ahead)

    def check_unlike(self, one, other, *told):
        """A history tells them apart; its last deed is one of those told, if some are."""
        for script, another in ((one, other), (other, one)):
            self.assertIsNone(script_error(script))
            ahead = repr((script, another))
            history = alike(script, another)
            self.assertEqual(repr(alike(script, another)), repr(history))
            self.assertIs(type(history), tuple)
            first, second = play(script, history), play(another, history)
            self.assertEqual(first[:-1], second[:-1])
            self.assertNotEqual(first[-1], second[-1])
            if told:
                self.assertIn(history[-1], told)
            self.assertEqual(repr((script, another)), ahead)
        return history

    def check_bodies(self, one, other, like, *told, more=()):
        """Two scripts that differ only in the body of act."""
        scripts = [script_of(OFFERS, (man_of(*body, more=more),)) for body in (one, other)]
        with self.subTest(one=one, other=other):
            if like:
                self.check_alike(*scripts)
            else:
                self.check_unlike(*scripts, *told)


class Like(CompareCase):
    def test_a_script_and_itself(self):
        for script in (S, RICH, FULL, SPLIT_FULL, script_of((), ()), script_of(("man born make",), (), (), ())):
            self.check_alike(script, script)

    def test_bodies_that_are_written_otherwise(self):
        body = (("if", ("told", "go"), (("keep", "n"), ("say", "w")), (("tell", "n"),)),)
        for test in (("has", "n"), ("told", "stop"), ("kin", "man"), ("guest", "man")):
            self.check_bodies(body, (("if", test, body, body),), True)
        self.check_bodies((("say", "w"),), (("say", "w"), ("tell", "n"), ("put", "n", "w")), True)
        self.check_bodies((("tell", "n"),), (("tell", "n"), ("say", "w")), True)
        self.check_bodies((("give", ("own", "n")),), (("give", ("own", "n")), ("put", "n", "w")), True)
        for test in (("has", "n"), ("told", "go"), ("kin", "man"), ("guest", "man")):
            self.check_bodies(body, (("if", test, (), ()),) + body, True)
        self.check_bodies((("put", "n", "v"), ("put", "n", "w")), (("put", "n", "w"),), True)
        self.check_bodies((("give", ("own", "other")),), (("say", "w"),), True, more=(does("other", ("say", "w")),))

    def test_an_empty_test_can_be_a_fault(self):
        self.check_bodies((), (("if", ("is", "n", "w"), (), ()),), False)
        self.check_bodies((), (("if", ("kin", "dog"), (), ()),), False)

    def test_what_no_deed_can_tell_apart(self):
        # Nobody calls other, nobody reads n, and no thing has m.
        for part, another in (
            (does("other", ("say", "v")), does("other", ("say", "w"))), (value("other", "v"), looks("other")),
        ):
            one, other = [script_of(OFFERS, (man_of(more=(more,)),)) for more in (part, another)]
            self.check_alike(one, other)
        self.check_bodies((("put", "n", "v"),), (("put", "n", "w"),), True)
        one, other = [(("if", ("has", "m"), (("say", word),), ()),) for word in ("v", "w")]
        self.check_bodies(one, other, True)
        self.check_bodies((("if", ("told", "maybe"), (("say", "v"),), ()),), (), True)

    def test_other_standings_are_not_told(self):
        # The one has own fields where the other has values.
        one = script_of(OFFERS + ("man n read",), (man_of(("tell", "n"), more=(does("born", ("put", "n", "w")),)),))
        other = script_of(OFFERS + ("man n read",), (man_of(("say", "w"), more=(value("n", "w"),)),))
        self.check_alike(one, other)

    def test_elder_classes_that_do_the_same(self):
        one = script_of(OFFERS, (man_of(("say", "v")),), (man_of(("say", "w")), ("lead", "man")))
        other = script_of(OFFERS, (man_of(("say", "v")),), (man_of(("say", "w")), ("part", "man", value("n", "w"))))
        self.assertEqual(self.check_unlike(one, other)[-1][0], "call")
        other = script_of(OFFERS, (man_of(("say", "v")),), (man_of(("say", "v")), ("part", "man", value("n", "w"))))
        one = script_of(OFFERS, (man_of(("say", "v")),), (man_of(("say", "v")), ("lead", "man")))
        self.check_alike(one, other)


class UnlikeDeeds(CompareCase):
    def test_what_is_said(self):
        self.check_bodies((("say", "v"),), (("say", "w"),), False)
        self.check_bodies((), (("say", "w"),), False)

    def test_faults(self):
        self.check_bodies((("tell", "m"),), (("tell", "n"),), False)
        self.check_bodies((("tell", "act"),), (("tell", "n"),), False)
        self.check_bodies((("give", ("own", "n")),), (("give", ("own", "val")),), False, more=(value("val", "w"),))

    def test_a_make(self):
        one, other = [script_of(("man born make",), (klass("man", "", born),)) for born in (
            does("born", ("if", ("told", "stop"), (("tell", "n"),), ())), does("born"),
        )]
        self.assertEqual(self.check_unlike(one, other), (make(w="stop"),))
        born = does("born", ("if", ("told", "stop"), (("tell", "m"),), ()))
        third = script_of(("man born make",), (klass("man", "", born),))
        self.assertEqual(self.check_unlike(one, third), (make(w="stop"),))

    def test_a_read(self):
        one, other = [script_of(("man born make", "man n read"), (klass("man", "", part),)) for part in (
            value("n", "v"), looks("n", ("say", "w")),
        )]
        self.assertEqual(self.check_unlike(one, other)[-1], ("read", 0, "n"))

    def test_a_hold(self):
        # Both calls are the same fault; only the hold holds something or nothing.
        more = (does("other", ("give", ("own", "act"))),)
        one = script_of(OFFERS, (klass("man", "", does("act", ("tell", "act"))),))
        other = script_of(OFFERS, (klass("man", "", looks("act", ("give", ("own", "other"))), *more),))
        self.check_unlike(one, other)
        one = script_of(OFFERS, (klass("man", "", does("act", ("do", ("own", "val"))), value("val", "w")),))
        other = script_of(OFFERS, (klass("man", "", looks("act", ("do", ("own", "val"))), value("val", "w")),))
        self.assertEqual(self.check_unlike(one, other)[-1], ("hold", 0, "act"))

    def test_holds_that_hold_nothing(self):
        # To hold is the fault word here, and lacks there, where the call lacks it, too.
        one = script_of(OFFERS, (klass("man", "", looks("act", ("tell", "act"))),))
        other = script_of(OFFERS, (klass("man", "", looks("act", ("tell", "act")), value("n", "w")),))
        self.check_alike(one, other)
        one = script_of(OFFERS, (klass("man", "", looks("act", ("do", ("base", "man", "n")))),))
        other = script_of(OFFERS, (klass("man", "", does("act", ("do", ("base", "man", "n")))),))
        self.check_unlike(one, other, ("hold", 0, "act"))

    def test_a_second_word(self):
        self.check_bodies(
            (("if", ("told", "stop"), (("say", "v"),), ()),), (("if", ("told", "stop"), (("say", "w"),), ()),), False,
            call("act", w="stop"), ring(w="stop"),
        )
        self.check_bodies((("keep", "n"), ("tell", "n")), (("put", "n", "go"), ("say", "go")), False,
                          call("act", w="stop"))

    def test_a_guest(self):
        one, other = [script_of(OFFERS + ("dog born make",), (klass("dog", ""), man_of(
            ("if", ("guest", "dog"), (("say", word),), (("say", "w"),)),
        ))) for word in ("v", "w")]
        history = self.check_unlike(one, other)
        self.assertIn("dog", [deed[1] for deed in history if deed[0] == "make"])
        # Also if only one of both asks for a guest, or for a word.
        self.check_unlike(one, script_of(OFFERS + ("dog born make",), (klass("dog", ""), man_of(("say", "w")))))
        # Where nobody makes dogs nobody can tell them apart.
        none, neither = [script_of(OFFERS, script[2][0]) for script in (one, other)]
        self.check_alike(none, neither)

    def test_who_is_the_guest(self):
        # A guest is of another class where it was led.
        man = man_of(("if", ("guest", "pet"), (("say", "w"),), ()))
        one = script_of(
            OFFERS + ("dog born make",), (klass("pet", ""), klass("dog", "pet"), man),
            (klass("dog", "pet"), ("lead", "dog")),
        )
        like = script_of(
            OFFERS + ("dog born make",), (klass("pet", ""), klass("dog", "pet"), man),
            (klass("dog", "pet"), ("clear", "dog", "n")),
        )
        self.check_alike(one, like)
        other = script_of(
            OFFERS + ("dog born make",), (klass("pet", ""), klass("dog", "pet"), man),
            (klass("dog", ""), ("lead", "dog")),
        )
        self.check_unlike(one, other)

    def test_a_body_that_was_held(self):
        one, other = [script_of(
            OFFERS, (man_of(("if", ("has", "n"), (("say", word),), ())),),
            (("part", "man", does("act", ("put", "n", "w"))),),
        ) for word in ("v", "w")]
        history = self.check_unlike(one, other)
        self.assertEqual([deed[0] for deed in history if deed[0] in ("hold", "ring")], ["hold", "ring"])
        self.assertEqual(history[-1][0], "ring")

    def test_a_body_held_in_one_of_them_only(self):
        # The holds have unlike answers, so no ring can follow.
        one = script_of(OFFERS, (man_of(),), (("part", "man", does("act")),))
        other = script_of(OFFERS, (klass("man", "", looks("act")),), (("part", "man", does("act")),))
        self.check_unlike(one, other, ("hold", 0, "act"), call("act"))

    def test_only_in_a_later_stage(self):
        for stages in (1, 2):
            one, other = [script_of(
                OFFERS, (man_of(("put", "n", word)),), *[()] * (stages - 1),
                (("part", "man", does("act", ("tell", "n"))),),
            ) for word in ("v", "w")]
            history = self.check_unlike(one, other)
            self.assertEqual(len([deed for deed in history if deed == NEXT]), stages)

    def test_only_what_the_things_became(self):
        one = script_of(OFFERS + ("man n read",), (man_of(),), (("fill", "man", "n", "v"),))
        other = script_of(OFFERS + ("man n read",), (man_of(),), (("fill", "man", "n", "w"),))
        self.assertEqual(self.check_unlike(one, other)[-1], ("read", 0, "n"))
        # Men that are made behind the fill have not got it.
        one, other = [
            script_of(OFFERS + ("man n read",), (), (man_of(), ("fill", "man", "n", word))) for word in ("v", "w")
        ]
        self.check_alike(one, other)

    def test_the_number_of_steps_that_were_run(self):
        # The cut of n fails; so does the one behind it.
        one = script_of(OFFERS, (man_of(),), (("clear", "man", "n"), ("cut", "man", "n"), ("clear", "man", "n")))
        other = script_of(OFFERS, (man_of(),), (("clear", "man", "n"), ("clear", "man", "n")))
        self.assertEqual(self.check_unlike(one, other), (NEXT,))
        third = script_of(OFFERS, (man_of(),), (("clear", "man", "n"), ("cut", "man", "m")))
        self.check_alike(one, third)
        one, other, third = [script[:2] + (script[2][:1] + ((),) + script[2][1:],) for script in (one, other, third)]
        self.assertEqual(self.check_unlike(one, other), (NEXT, NEXT))
        self.check_alike(one, third)

    def test_the_steps_of_stage_0_are_not_told(self):
        one = script_of(OFFERS, (man_of(), ("clear", "man", "n"), ("cut", "man", "n")), ())
        other = script_of(OFFERS, (man_of(),), ())
        self.check_alike(one, other)

    def test_nothing_is_told_behind_an_unlike_next(self):
        # In stage 1 the next tells them apart; there is nothing to find in stage 0.
        one = script_of(OFFERS, (man_of(),), (("part", "man", does("act", ("say", "v"))),), (("cut", "man", "act"),))
        other = script_of(OFFERS, (man_of(),), (), (("cut", "man", "act"),))
        self.assertEqual(self.check_unlike(one, other), (NEXT,))


class Unliked(CompareCase):
    """Scripts that cannot be compared."""

    def check_refused(self, one, other, stage):
        for script, another in ((one, other), (other, one)):
            self.assertIsNone(script_error(script))
            ahead = repr((script, another))
            with self.subTest(one=script, other=another):
                with self.assertRaises(Unlike) as caught:
                    alike(script, another)
                self.assertEqual(repr(caught.exception.stage), repr(stage))
            self.assertEqual(repr((script, another)), ahead)

    def test_the_heads(self):
        one = script_of(OFFERS, (man_of(),), ())
        for other in (
            script_of(OFFERS, (man_of(),), (), words=("go",)),
            script_of(OFFERS, (man_of(),), (), words=("go", "stops")),
            script_of(OFFERS[:1], (man_of(),), ()), script_of(OFFERS + ("man n read",), (man_of(),), ()),
            script_of(("man act read", "man born make"), (man_of(),), ()),
            script_of(OFFERS, (man_of(),)), script_of(OFFERS, (man_of(),), (), ()),
        ):
            self.check_refused(one, other, -1)

    def test_the_heads_go_ahead(self):
        # Of the classes, and of what is too many.
        self.check_refused(script_of(OFFERS, ()), script_of(OFFERS[:1], (man_of(),)), -1)
        self.check_refused(FULL, FULLER, -1)
        self.check_refused(FULLER, script_of(MORE_OFFERS, (CROWD, DOG), ()), -1)

    def test_the_classes_that_are_seen(self):
        man = (man_of(),)
        self.check_refused(script_of(OFFERS, ()), script_of(OFFERS, man), 0)
        self.check_refused(script_of(OFFERS, man, ()), script_of(OFFERS, man, man), 1)
        self.check_refused(script_of(OFFERS, man, (), ()), script_of(OFFERS, man, (), man), 2)
        self.check_refused(script_of(OFFERS, man, man, ()), script_of(OFFERS, man, (), man), 1)
        # Also classes that nobody can make.
        self.check_refused(script_of((), (DOG,)), script_of((), ()), 0)
        self.check_refused(script_of((), (DOG,)), script_of((), man), 0)

    def test_a_stage_later_they_are_the_same(self):
        man = (man_of(),)
        self.check_refused(script_of(OFFERS, man, ()), script_of(OFFERS, (), man), 0)

    def test_seen_and_not_made_or_bound(self):
        # A dog that was forgotten within its stage is never seen; one that is
        # forgotten later on has been.
        one = script_of(OFFERS, (man_of(), DOG, ("forget", "dog")), (("clear", "man", "n"),))
        other = script_of(OFFERS, (man_of(),), (("clear", "man", "n"),))
        self.check_alike(one, other)
        one = script_of(OFFERS, (man_of(), DOG), (("forget", "dog"),))
        other = script_of(OFFERS, (man_of(), DOG), (("clear", "dog", "n"),))
        self.check_alike(one, other)

    def test_ahead_of_too_many(self):
        self.check_refused(FULLER, script_of(MORE_OFFERS, (CROWD,)), 0)
        self.check_refused(script_of(MORE_OFFERS, (CROWD, DOG), (DOG,)), script_of(MORE_OFFERS, (CROWD, DOG), ()), 1)


# A man who goes through 25 standings, and one who goes through 8: of both side by
# side there are 200 pairs.
AND_ON = (("drop", "a"), ("do", ("own", "stepb")), ("say", "ok"))
LONG_MAN = klass(
    "man", "", steps_through("b", "p", "q", "r", "s"), does(
        "stepa",
        ("if", ("has", "a"), (), (("put", "a", "p"), ("say", "ok"))),
        ("if", ("is", "a", "p"), (("put", "a", "q"), ("say", "ok")), ()),
        ("if", ("is", "a", "q"), (("put", "a", "r"), ("say", "ok")), ()),
        ("if", ("is", "a", "r"), (("put", "a", "s"), ("say", "ok")), AND_ON),
    ),
)


def short_man(first):
    """The man who goes through 8 standings; the first of these steps says this."""
    return klass(
        "man", "", steps_through("b", "p"), does(
            "stepa",
            ("if", ("has", "a"), (), (("put", "a", "p"), ("say", first))),
            ("if", ("is", "a", "p"), (("put", "a", "q"), ("say", "ok")), ()),
            ("if", ("is", "a", "q"), (("put", "a", "r"), ("say", "ok")), AND_ON),
        ),
    )


SHORT_MAN = short_man("ok")
STEPPED = ("dog born make", "dog n read", "man born make", "man stepa call")


class Most(CompareCase):
    def check_too_many(self, one, other):
        for script, another in ((one, other), (other, one)):
            self.assertIsNone(script_error(script))
            with self.assertRaises(TooMany):
                alike(script, another)

    def test_a_table_of_one_of_both(self):
        few = script_of(MORE_OFFERS, (klass("man", ""), DOG))
        self.check_too_many(FULLER, FULLER)
        self.check_too_many(FULLER, few)
        self.check_too_many(SPLIT_FULLER, SPLIT_FULLER)
        # A make tells them apart ahead.
        never = script_of(MORE_OFFERS, (klass("man", "", value("born", "w")), klass("dog", "", value("born", "w"))))
        self.check_too_many(FULLER, never)
        self.check_unlike(never, few)

    def test_a_stage_that_no_like_history_reaches(self):
        # The next tells them apart, but the table of stage 1 has too many entries.
        one = script_of(MORE_OFFERS, (CROWD, ("forget", "man")), (DOG, ("clear", "dog", "n")))
        other = script_of(MORE_OFFERS, (CROWD, ("forget", "man")), (DOG,))
        self.check_unlike(one, other)
        one = script_of(MORE_OFFERS, (CROWD,), (DOG, ("clear", "dog", "n")))
        other = script_of(MORE_OFFERS, (CROWD,), (DOG,))
        self.check_too_many(one, other)

    def scripts(self, *more, ahead=()):
        """Two scripts whose men have 200 pairs of standings in the last stage."""
        return [script_of(STEPPED, *ahead, (man,) + more) for man in (LONG_MAN, SHORT_MAN)]

    def test_pairs(self):
        one, other = self.scripts()
        self.assertEqual([len(table_of(script)[0]) for script in (one, other)], [25, 8])
        self.check_alike(one, other)
        self.check_alike(*self.scripts(ahead=((), ())))
        # One of a dog is one more.
        self.check_too_many(*self.scripts(DOG))
        self.check_too_many(*self.scripts(DOG, ahead=((),)))
        # Dogs are no things if their make is a fault.
        self.check_alike(*self.scripts(klass("dog", "", value("born", "w"))))

    def test_pairs_of_a_stage_that_is_not_the_last(self):
        one, other = self.scripts(DOG)
        self.check_too_many(*[script[:2] + (script[2] + ((),),) for script in (one, other)])

    def test_entries_of_pairs_are_not_counted(self):
        # Both tables have 60 entries for the last stage, and 30 standings.
        self.check_alike(SPLIT_FULL, SPLIT_FULL)

    def test_a_history_that_is_found_ahead(self):
        one, other = self.scripts(klass("dog", "", value("n", "v")))
        third, fourth = self.scripts(klass("dog", "", value("n", "w")))
        self.check_too_many(one, fourth)
        self.check_too_many(other, third)
        # Two that go through the same standings have few pairs.
        self.check_unlike(one, third, ("read", 0, "n"))

    def test_pairs_behind_unlike_answers_do_not_count(self):
        # The first step tells them apart, so there are two pairs.
        one, _ = self.scripts(DOG)
        self.check_unlike(one, script_of(STEPPED, (short_man("no"), DOG)), call("stepa"), call("stepa", w="stop"))


if __name__ == "__main__":
    unittest.main()
