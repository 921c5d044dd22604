"""cases, each_case, case_way, is_safe and sure over all histories (point 10)."""

import inspect
import unittest

from acting import NEXT, S, does, klass, looks, make, script_of, value
from crowded import FULL, SPLIT_FULL, SPLIT_FULLER, TOO_MANY
from remadeclasses.errors import TooMany
from remadeclasses.faults import case_way, cases, each_case, is_safe, sure
from remadeclasses.plays import play
from remadeclasses.scripts import script_error
from remadeclasses.tables import table_of
from searching import begun_by, case_of, done_by, search

NO_FIELD = ("tell", "none")


def when(test, *body):
    """A row that does this if the test is met."""
    return ("if", test, body, ())


class FaultCase(unittest.TestCase):
    def check(self, script, *told):
        """These are the cases, in this order; each of them has a way."""
        self.assertIsNone(script_error(script))
        ahead = repr(script)
        self.assertEqual(cases(script), told)
        self.assertEqual(repr(cases(script)), repr(told))
        self.assertEqual(repr(cases(script)), repr(told))
        pairs = list(each_case(script))
        self.assertEqual(repr(tuple(case for case, _ in pairs)), repr(told))
        self.assertEqual(repr(list(each_case(script))), repr(pairs))
        self.assertTrue(inspect.isgenerator(each_case(script)))
        for case, history in pairs:
            self.check_way(script, case, history)
            self.check_way(script, case, case_way(script, case))
        self.assertIs(is_safe(script), told == ())
        self.assertIs(is_safe(script, held=True), told == ())
        self.check_sure(script)
        self.assertEqual(repr(script), ahead)

    def check_way(self, script, case, history):
        """The last deed of the history is of this case."""
        with self.subTest(case=case, history=history):
            self.assertIs(type(history), tuple)
            kind, n = case[2:]
            self.assertEqual(play(script, history)[-1], ("fault", kind, n))
            done = done_by(script, history[:-1])
            self.assertEqual(done.stage, case[0])
            answer, _ = begun_by(done_by(script, history[:-1]), history[-1])
            self.assertEqual(repr(case_of(done, history[-1], answer)), repr(case))
            self.assertEqual(repr(case_way(script, case)), repr(case_way(script, case)))

    def check_sure(self, script):
        """Sure tells the offers of which the cases have none."""
        unsure = set()
        for _, deed, _, _ in cases(script):
            if deed[0] == "make":
                unsure.add((deed[1], "born", "make"))
            elif deed[0] != "ring":
                unsure.add((deed[1], deed[3], "read" if deed[0] == "read" else "call"))
        told = tuple(offer for offer in script[1] if offer not in unsure)
        self.assertEqual(repr(sure(script)), repr(told))
        self.assertEqual(repr(sure(script)), repr(told))

    def check_search(self, script, most, *told, most_things=2, most_holds=1):
        """The search finds the very same; told are some of the cases."""
        found = search(script, most, most_things, most_holds)
        self.check(script, *sorted(found.cases))
        for case in told:
            self.assertIn(case, found.cases)
        return found


class Plain(FaultCase):
    def test_the_document(self):
        self.check(
            S, (1, ("call", "man", 1, "greet"), "lacks", "title"), (1, ("ring", 1, 0, 1), "lacks", "title"),
        )
        self.check_search(S, 5)
        self.assertIs(is_safe(S, held=False), False)
        self.assertEqual(sure(S), (("man", "born", "make"),))

    def test_there_are_none(self):
        self.check(script_of((), ()))
        self.check(script_of(("man born make", "man act call"), (), ()))
        man = klass("man", "", does("act", ("put", "n", "w")), does("born"))
        self.check(script_of(("man act call", "man born make"), (man,), (man, ("lead", "man"))))
        self.check(script_of(("man act call", "man see read"), (klass("man", "", does("act", NO_FIELD)),)))

    def test_what_no_thing_is_asked(self):
        # There are no things of dogs, and of men none is called with stop.
        man = klass("man", "", does("act", when(("told", "stop"), NO_FIELD)))
        dog = klass("dog", "", does("act", NO_FIELD))
        offers = ("dog act call", "man act call", "man born make")
        self.check(script_of(offers, (man, dog), words=("go",)))
        self.check(script_of(offers, (man, dog)), (0, ("call", "man", 0, "act"), "lacks", "none"),
                   (0, ("ring", 0, 0, 0), "lacks", "none"))


class Makes(FaultCase):
    def test_a_make_that_never_gives_a_thing(self):
        dog = klass("dog", "", does("act", NO_FIELD), does("born", NO_FIELD))
        script = script_of(("dog act call", "dog act read", "dog born make"), (dog,), ())
        self.check(
            script, (0, ("make", "dog", 0), "lacks", "none"), (1, ("make", "dog", 0), "lacks", "none"),
        )
        self.assertEqual(sure(script), (("dog", "act", "call"), ("dog", "act", "read")))
        self.check_search(script, 3)

    def test_each_class_that_is_seen(self):
        # The first man of stage 0 is bound behind no stage, nor are the cat and the
        # first man of stage 1.
        script = script_of(
            ("cat born make", "man born make"),
            (klass("man", "", does("born", NO_FIELD)), klass("man", "", looks("born")),
             klass("cat", "", does("born", NO_FIELD)), ("forget", "cat")),
            (("forget", "man"), klass("man", "", does("born", ("tell", "other"))), ("forget", "man")),
            (klass("man", "", value("born", "w")),),
        )
        # The body of a looks is run, and then it cannot be called.
        self.check(
            script,
            (0, ("make", "man", 1), "word", "born"),
            (1, ("make", "man", 1), "word", "born"),
            (2, ("make", "man", 1), "word", "born"),
            (2, ("make", "man", 3), "word", "born"),
        )

    def test_by_one_word_alone(self):
        script = script_of(("man born make",), (klass("man", "", does("born", when(("told", "stop"), NO_FIELD))),))
        self.check(script, (0, ("make", "man", 0), "lacks", "none"))
        script = script_of(("man born make",), (klass("man", "", does("born", when(("told", "go"), NO_FIELD))),))
        self.check(script, (0, ("make", "man", 0), "lacks", "none"))

    def test_no_guest_is_there(self):
        born = does("born", when(("guest", "man"), NO_FIELD))
        self.check(script_of(("man born make",), (klass("man", "", born),)))
        born = does("born", when(("guest", "dog"), NO_FIELD))
        self.check(script_of(("man born make",), (klass("man", "", born),)), (0, ("make", "man", 0), "name", "dog"))

    def test_only_in_some_stage(self):
        script = script_of(
            ("man born make",), (klass("man", "", does("born", ("do", ("base", "dog", "act")))), klass("dog", "")),
            (("part", "dog", does("act")),), (("cut", "dog", "act"), ("forget", "dog")),
        )
        self.check(script, (0, ("make", "man", 0), "lacks", "act"), (2, ("make", "man", 0), "name", "dog"))

    def test_several_faults_of_one_class(self):
        script = script_of(("man born make",), (klass(
            "man", "", does("born", when(("told", "go"), NO_FIELD), ("drop", "other")),
        ),))
        self.check(
            script, (0, ("make", "man", 0), "lacks", "none"), (0, ("make", "man", 0), "lacks", "other"),
        )


class Kinds(FaultCase):
    """Each kind of fault, of a call; the body that is called can be held and rung."""

    def check_kind(self, row, kind, n, *more):
        man = klass("man", "", does("act", row), *more)
        script = script_of(("man act call", "man born make"), (klass("kin", "", looks("far")), man))
        self.check(
            script, (0, ("call", "man", 0, "act"), kind, n), (0, ("ring", 0, 1, 0), kind, n),
        )

    def test_lacks(self):
        self.check_kind(("tell", "n"), "lacks", "n")
        self.check_kind(("drop", "n"), "lacks", "n")
        self.check_kind(("do", ("own", "n")), "lacks", "n")
        self.check_kind(("give", ("up", "act")), "lacks", "act")
        self.check_kind(("give", ("base", "kin", "act")), "lacks", "act")

    def test_does(self):
        self.check_kind(("tell", "act"), "does", "act")
        self.check_kind(when(("is", "act", "w")), "does", "act")

    def test_word(self):
        self.check_kind(("do", ("own", "val")), "word", "val", value("val", "w"))
        self.check_kind(("do", ("base", "kin", "far")), "word", "far")

    def test_strange(self):
        self.check_kind(("do", ("past", "kin", "act")), "strange", "act")

    def test_name(self):
        self.check_kind(("do", ("past", "dog", "act")), "name", "dog")
        self.check_kind(("do", ("base", "dog", "act")), "name", "dog")
        self.check_kind(when(("kin", "dog")), "name", "dog")
        self.check_kind(when(("guest", "dog")), "name", "dog")

    def test_looks(self):
        self.check_kind(("put", "view", "w"), "looks", "view", looks("view"))
        self.check_kind(("keep", "view"), "looks", "view", looks("view"))
        self.check_kind(("drop", "view"), "looks", "view", looks("view"))

    def test_untold(self):
        self.check_kind(("tell", "view"), "untold", "n", looks("view", ("keep", "n")))

    def test_long(self):
        self.check_kind(("do", ("own", "act")), "long", "act")

    def test_all_in_one(self):
        # Of the same deed, by its words and guests.
        act = does(
            "act", when(("guest", "dog"), ("tell", "act")), when(("told", "go"), ("tell", "none")), ("drop", "other"),
        )
        script = script_of(
            ("dog born make", "man act call", "man born make"), (klass("man", "", act), klass("dog", "")),
        )
        told = (("does", "act"), ("lacks", "none"), ("lacks", "other"))
        self.check(
            script, *[(0, ("call", "man", 0, "act")) + fault for fault in told],
            *[(0, ("ring", 0, 0, 0)) + fault for fault in told],
        )


class Reads(FaultCase):
    def test_what_is_read(self):
        born = does("born", ("put", "own", "w"))
        man = klass("man", "", does("act"), looks("ill", NO_FIELD), value("val", "w"), born)
        offers = ["man " + n + " read" for n in ("act", "ill", "own", "val", "void")]
        self.check(
            script_of(["man born make"] + offers, (man,)),
            (0, ("read", "man", 0, "act"), "does", "act"),
            (0, ("read", "man", 0, "ill"), "lacks", "none"),
            (0, ("read", "man", 0, "void"), "lacks", "void"),
        )

    def test_no_word_and_no_guest_is_there(self):
        see = looks("see", when(("told", "go"), NO_FIELD), when(("guest", "man"), ("tell", "other")))
        self.check(script_of(("man born make", "man see read"), (klass("man", "", see),)))
        see = looks("see", ("keep", "n"))
        self.check(
            script_of(("man born make", "man see read"), (klass("man", "", see),)),
            (0, ("read", "man", 0, "see"), "untold", "n"),
        )


class Holds(FaultCase):
    def test_what_is_held(self):
        # Under own a body stands behind an own field.
        man = klass("man", "", does("act"), does("own"), looks("see"), value("val", "w"))
        script = script_of(
            ("man born make", "man act call", "man own call", "man see call", "man val call", "man void call"),
            (klass("man", "", does("act")),), (man, ("lead", "man"), ("fill", "man", "own", "w")),
        )
        told = cases(script)
        holds = tuple(case for case in told if case[1][0] == "hold")
        self.assertEqual(holds, (
            (0, ("hold", "man", 0, "own"), "lacks", "own"), (0, ("hold", "man", 0, "see"), "lacks", "see"),
            (0, ("hold", "man", 0, "val"), "lacks", "val"), (0, ("hold", "man", 0, "void"), "lacks", "void"),
            (1, ("hold", "man", 0, "own"), "lacks", "own"), (1, ("hold", "man", 0, "see"), "lacks", "see"),
            (1, ("hold", "man", 0, "val"), "lacks", "val"), (1, ("hold", "man", 0, "void"), "lacks", "void"),
            (1, ("hold", "man", 1, "own"), "word", "own"), (1, ("hold", "man", 1, "see"), "word", "see"),
            (1, ("hold", "man", 1, "val"), "word", "val"), (1, ("hold", "man", 1, "void"), "lacks", "void"),
        ))
        self.check_search(script, 5)

    def test_an_own_field_alone(self):
        script = script_of(
            ("man born make", "man own call"), (klass("man", "", does("born", ("put", "own", "w"))),),
        )
        self.check(
            script, (0, ("call", "man", 0, "own"), "word", "own"), (0, ("hold", "man", 0, "own"), "word", "own"),
        )

    def test_nothing_is_run(self):
        # The call reads see, which is a fault of its own; the hold does not.
        script = script_of(("man born make", "man see call"), (klass("man", "", looks("see", NO_FIELD)),))
        self.check(
            script, (0, ("call", "man", 0, "see"), "lacks", "none"), (0, ("hold", "man", 0, "see"), "word", "see"),
        )


class Classes(FaultCase):
    """A thing is asked with every class that it can have."""

    def test_each_class(self):
        script = script_of(
            ("man act call", "man born make", "man see read"),
            (klass("man", ""),), (klass("man", "", does("act", NO_FIELD)),), (("lead", "man"),),
        )
        told = []
        for stage, number in ((0, 0), (1, 0), (2, 0)):
            told.append((stage, ("call", "man", number, "act"), "lacks", "act"))
            told.append((stage, ("hold", "man", number, "act"), "lacks", "act"))
            told.append((stage, ("read", "man", number, "see"), "lacks", "see"))
        for stage in (1, 2):
            told.append((stage, ("call", "man", 1, "act"), "lacks", "none"))
            told.append((stage, ("read", "man", 1, "see"), "lacks", "see"))
            told.append((stage, ("ring", 1, 0, 0), "lacks", "none"))
        self.check(script, *sorted(told))
        self.check_search(script, 5)

    def test_a_class_that_only_led_things_have(self):
        # A make of the newer class is always a fault.
        man = klass("man", "", does("act", NO_FIELD), does("born", NO_FIELD))
        script = script_of(("man act call", "man born make"), (klass("man", "", does("act")),), (man, ("lead", "man")))
        found = self.check_search(script, 5, (1, ("call", "man", 1, "act"), "lacks", "none"))
        self.assertIn((1, ("make", "man", 1), "lacks", "none"), found.cases)

    def test_a_class_without_a_name(self):
        man = klass("man", "", does("act", when(("kin", "man"))))
        script = script_of(("man act call", "man born make"), (man,), (("forget", "man"),))
        self.check(
            script, (1, ("call", "man", 0, "act"), "name", "man"), (1, ("ring", 0, 0, 0), "name", "man"),
        )


class Guests(FaultCase):
    ACT = does("act", when(("guest", "dog"), NO_FIELD))

    def both(self, stage, number, place):
        return (
            (stage, ("call", "man", number, "act"), "lacks", "none"), (stage, ("ring",) + place, "lacks", "none"),
        )

    def test_a_guest_of_one_class_alone(self):
        offers = ("cat born make", "dog born make", "man act call", "man born make")
        steps = (klass("cat", ""), klass("dog", ""), klass("man", "", self.ACT))
        self.check(script_of(offers, steps), *self.both(0, 0, (0, 2, 0)))
        self.check_search(script_of(offers, steps), 4)
        self.check(script_of(offers[:1] + offers[2:], steps))

    def test_a_guest_with_a_word(self):
        act = does("act", when(("told", "stop"), when(("guest", "dog"), NO_FIELD)))
        script = script_of(
            ("cat born make", "dog born make", "man act call", "man born make"),
            (klass("cat", ""), klass("dog", ""), klass("man", "", act)),
        )
        self.check(script, *self.both(0, 0, (0, 2, 0)))

    def test_no_guest_at_all(self):
        act = does("act", ("if", ("guest", "man"), (), (NO_FIELD,)))
        self.check(script_of(("man act call", "man born make"), (klass("man", "", act),)), *self.both(0, 0, (0, 0, 0)))

    def test_a_guest_of_a_class_of_this_stage_only(self):
        # In stage 1 the dogs of stage 0 are kin to the class of the name dog; then
        # it has a newer one, of which there are no things.
        dog = klass("dog", "", value("born", "w"))
        script = script_of(
            ("dog born make", "man act call", "man born make"),
            (klass("man", "", does("act")), klass("dog", "")),
            (("part", "man", self.ACT),), (dog,),
        )
        self.check(script, *self.both(1, 0, (1, 0, 0)), (2, ("make", "dog", 1), "word", "born"))
        self.check_search(script, 5)

    def test_a_guest_that_was_led(self):
        dog = klass("dog", "", value("born", "w"))
        script = script_of(
            ("dog born make", "man act call", "man born make"),
            (klass("man", "", self.ACT), klass("dog", ""), ("forget", "dog"), klass("dog", "")),
            (dog, ("lead", "dog")),
        )
        found = self.check_search(script, 5)
        self.assertIn((1, ("call", "man", 0, "act"), "lacks", "none"), found.cases)

    def test_the_thing_itself(self):
        act = does("act", when(("guest", "man"), NO_FIELD))
        script = script_of(("man act call", "man born make"), (klass("man", "", act),))
        self.check(script, *self.both(0, 0, (0, 0, 0)))
        self.check_search(script, 3, most_things=1)


class Held(FaultCase):
    def test_only_behind_a_body_held_in_a_stage_ahead(self):
        # Only the body of stage 0 puts n, and there is no other way to a man with it.
        script = script_of(
            ("man act call", "man born make", "man see read"),
            (klass("man", "", does("act", ("put", "n", "w")), looks("see")),),
            (("part", "man", does("act")), ("clear", "man", "n"),
             ("part", "man", looks("see", when(("has", "n"), NO_FIELD)))),
        )
        told = (1, ("read", "man", 0, "see"), "lacks", "none")
        self.check(script, told)
        self.check_search(script, 6)
        self.assertIs(is_safe(script, held=False), True)
        self.assertEqual(sure(script), (("man", "act", "call"), ("man", "born", "make")))

    def test_only_rings(self):
        script = script_of(
            ("man act call", "man born make"),
            (klass("man", "", does("act", when(("kin", "man"), ("say", "w")), NO_FIELD)),),
            (klass("man", "man", does("act")),),
        )
        told = (
            (1, ("call", "man", 0, "act"), "lacks", "none"), (1, ("ring", 0, 0, 0), "lacks", "none"),
        )
        self.check(script, *told)
        # What was held ahead does what it did; the newer act puts what it asks for.
        led = script_of(
            ("man act call", "man born make"),
            (klass("man", "", does("act", when(("has", "n"), NO_FIELD))),),
            (("part", "man", does("act", ("put", "n", "w"))),),
        )
        self.check(led, (1, ("ring", 0, 0, 0), "lacks", "none"))
        self.check_search(led, 6)
        self.assertIs(is_safe(led, held=False), True)
        self.assertEqual(sure(led), (("man", "act", "call"), ("man", "born", "make")))

    def test_a_body_held_that_opens_another(self):
        # more can be held only when the held act of stage 0 was rung in stage 1.
        script = script_of(
            ("man act call", "man born make", "man more call"),
            (klass(
                "man", "", does("act", when(("has", "more"), ("drop", "more"))), does("born", ("put", "more", "x")),
            ),),
            (("part", "man", does("more")), ("part", "man", does("act"))),
            (("part", "man", value("more", "v")),),
        )
        self.check_search(script, 7, most_things=1, most_holds=2)

    def test_without_holds(self):
        # A hold that holds nothing is none of these histories, but the call is one.
        script = script_of(("man born make", "man void call"), (klass("man", ""),))
        self.assertIs(is_safe(script, held=False), False)
        self.assertIs(is_safe(script), False)
        script = script_of(("man born make",), (klass("man", "", does("born", NO_FIELD)),))
        self.assertIs(is_safe(script, held=False), False)
        man = klass("man", "", does("act", ("put", "act", "w")))
        script = script_of(("man act call", "man born make"), (man,))
        self.check(
            script, (0, ("call", "man", 0, "act"), "word", "act"), (0, ("hold", "man", 0, "act"), "word", "act"),
        )
        self.assertIs(is_safe(script, held=False), False)


class Sure(FaultCase):
    def test_what_no_history_can_do(self):
        script = script_of(
            ("dog act call", "dog born make", "dog see read", "man act call", "man born make", "man see read"),
            (klass("man", ""),),
        )
        self.check(
            script, (0, ("call", "man", 0, "act"), "lacks", "act"), (0, ("hold", "man", 0, "act"), "lacks", "act"),
            (0, ("read", "man", 0, "see"), "lacks", "see"),
        )
        self.assertEqual(
            sure(script),
            (("dog", "act", "call"), ("dog", "born", "make"), ("dog", "see", "read"), ("man", "born", "make")),
        )

    def test_call_and_read_of_one_word(self):
        script = script_of(
            ("man born call", "man born make", "man born read"), (klass("man", "", does("born")),),
        )
        self.check(script, (0, ("read", "man", 0, "born"), "does", "born"))
        self.assertEqual(sure(script), (("man", "born", "call"), ("man", "born", "make")))
        script = script_of(
            ("man born call", "man born make", "man born read"),
            (klass("man", "", does("born", when(("told", "go"), ("tell", "none")), ("put", "born", "w"))),),
        )
        self.assertEqual(sure(script), (("man", "born", "read"),))
        self.check_sure(script)

    def test_the_classes_of_one_name(self):
        # Only the elder men lack see, and only the newer ones lack act.
        script = script_of(
            ("dog act call", "dog born make", "man act call", "man born make", "man see read"),
            (klass("man", "", does("act")), klass("dog", "", does("act"))), (klass("man", "", value("see", "w")),),
        )
        self.assertEqual(sure(script), (("dog", "act", "call"), ("dog", "born", "make"), ("man", "born", "make")))
        self.check_search(script, 4)

    def test_holds_and_calls_hang_on_one_offer(self):
        script = script_of(
            ("man act call", "man born make", "man val call"), (klass("man", "", does("act"), value("val", "w")),),
        )
        self.assertEqual(sure(script), (("man", "act", "call"), ("man", "born", "make")))


class Searched(FaultCase):
    """Other scripts, against the search."""

    def test_a_rebase(self):
        self.check_search(script_of(
            ("man act call", "man born make", "pup act call", "pup born make"),
            (
                klass("dog", "", does("act", ("tell", "n"))),
                klass("man", "", does("act", ("put", "n", "x"), ("do", ("base", "dog", "act")))),
                klass("pup", "dog", does(
                    "act", ("if", ("guest", "man"), (("give", ("up", "act")),), (("put", "m", "x"),)),
                )),
            ),
            (("rebase", "pup", ("man",)), ("fill", "dog", "o", "w"), ("clear", "man", "n")),
        ), 5)

    def test_a_body_that_goes_up_from_an_elder_class(self):
        self.check_search(script_of(
            ("man act call", "man born make"),
            (klass("kin", "", does("act", ("keep", "n"))), klass("man", "kin", does("act", ("give", ("up", "act"))))),
            (klass("man", "", does("act", ("tell", "n"))), ("lead", "man")),
        ), 6, (1, ("ring", 0, 1, 0), "strange", "act"), (1, ("call", "man", 1, "act"), "lacks", "n"), most_things=1)

    def test_three_stages(self):
        self.check_search(script_of(
            ("man act call", "man born make", "man go call", "man n read"),
            (klass(
                "man", "", does("act", ("do", ("own", "go")), ("put", "n", "w")), does("go", ("do", ("own", "go"))),
            ),),
            (("part", "man", does("go", ("keep", "m"), ("tell", "none"))), ("cut", "man", "none")),
            (("part", "man", does("go", ("if", ("is", "m", "go"), (("drop", "m"),), ()))), ("part", "man", looks("n"))),
        ), 8, most_things=1)


class AnyValue(FaultCase):
    """case_way of what is no case."""

    def check_none(self, script, case):
        with self.subTest(case=case):
            ahead = repr(case)
            self.assertIsNone(case_way(script, case))
            self.assertEqual(repr(case), ahead)

    def test_another_case(self):
        script = script_of(
            ("man act call", "man born make", "man val call", "man void read"),
            (klass("man", "", does("act", NO_FIELD), value("val", "w")),), (), (("cut", "man", "act"),),
        )
        told = cases(script)
        for case in told:
            self.check_way(script, case, case_way(script, case))
        stages = sorted({case[0] for case in told}) + [-1, 3]
        deeds = sorted({case[1] for case in told}) + [("make", "man", 0), ("hold", "man", 1, "val"), ("next",)]
        kinds = sorted({case[2:] for case in told}) + [("none", "lacks"), ("fault", "lacks")]
        for stage in stages:
            for deed in deeds:
                for kind in kinds:
                    if (stage, deed) + kind not in told:
                        self.check_none(script, (stage, deed) + kind)

    def test_any_value(self):
        script = script_of(("man act call", "man born make"), (klass("man", ""),), (klass("man", ""),))
        rights = (
            (1, ("call", "man", 1, "act"), "lacks", "act"), (1, ("hold", "man", 0, "act"), "lacks", "act"),
            (0, ("call", "man", 0, "act"), "lacks", "act"),
        )
        rung = script_of(
            ("man act call", "man born make"), (), (klass("dog", ""), klass("man", "", does("act", NO_FIELD))),
        )
        born = script_of(("man born make",), (), (klass("man", "", does("born", NO_FIELD)),))
        items = (
            None, True, False, 0, 1, 2, -1, 10 ** 29, "", "act", "lacks", "man", (), [], {}, ("act",), ["act"],
            {"act": "act"}, [("act",)], "Act",
        )
        for script, right in [(script, right) for right in rights] + [
            (rung, (1, ("ring", 1, 1, 0), "lacks", "none")), (born, (1, ("make", "man", 0), "lacks", "none")),
        ]:
            self.check_way(script, right, case_way(script, right))
            for wrong in self.wrongs(right, items):
                if wrong not in cases(script) or "True" in repr(wrong) or "False" in repr(wrong):
                    self.check_none(script, wrong)

    def wrongs(self, right, items):
        """The case with parts that are others, left out or put in."""
        yield from items
        yield list(right)
        yield right + (None,)
        yield (right,)
        for at, part in enumerate(right):
            for item in items:
                yield right[:at] + (item,) + right[at + 1:]
            yield right[:at] + right[at + 1:]
            yield right[:at] + ([part],) + right[at + 1:]
            yield right[:at] + ((part,),) + right[at + 1:]
        deed = right[1]
        for at in range(len(deed)):
            for item in items:
                yield (right[0], deed[:at] + (item,) + deed[at + 1:]) + right[2:]
            yield (right[0], deed[:at] + deed[at + 1:]) + right[2:]
        yield (right[0], list(deed)) + right[2:]
        yield (right[0], deed + (deed[-1],)) + right[2:]

    def test_a_way_is_let_by_and_ends_so(self):
        for stage in (0, 1, 2):
            case = (stage, ("make", "man", 0), "lacks", "none")
            script = script_of(("man born make",), (klass("man", "", does("born", NO_FIELD)),), (), ())
            self.assertEqual(case_way(script, case), (NEXT,) * stage + (case_way(script, case)[-1],))
            self.assertIn(case_way(script, case)[-1], (make(), make(w="stop")))


class Most(FaultCase):
    """With 60 entries there are cases, with 61 everything is too many."""

    ASKED = (
        cases, sure, is_safe, lambda script: is_safe(script, held=False), lambda script: is_safe(script, held=True),
        lambda script: list(each_case(script)), lambda script: next(each_case(script)),
        lambda script: case_way(script, (0, ("make", "man", 0), "lacks", "none")), lambda script: case_way(script, []),
    )

    def test_sixty(self):
        self.check(FULL)
        told = cases(SPLIT_FULL)
        self.assertEqual(len(told), 18)
        for case in told:
            self.check_way(SPLIT_FULL, case, case_way(SPLIT_FULL, case))

    def test_more(self):
        for script in TOO_MANY:
            self.assertIsNone(script_error(script))
            for at, asked in enumerate(self.ASKED):
                with self.subTest(at=at), self.assertRaises(TooMany):
                    asked(script)

    def test_only_held_bodies_make_them_too_many(self):
        # Without holds there are no more than 31 entries in the last stage.
        self.assertEqual(len(table_of(SPLIT_FULL)[2]), 60)
        with self.assertRaises(TooMany):
            is_safe(SPLIT_FULLER, held=False)


if __name__ == "__main__":
    unittest.main()
