"""runs, elder and run_way over all histories (point 10)."""

import unittest

from acting import S, does, klass, looks, script_of, value
from crowded import FULL, SPLIT_FULL, TOO_MANY
from remadeclasses.errors import TooMany
from remadeclasses.plays import play
from remadeclasses.runs import elder, run_way, runs
from remadeclasses.scripts import bodies, script_error
from searching import begun_by, done_by, search

FAULT = ("tell", "none")


class RunCase(unittest.TestCase):
    def check(self, script, told, elders=()):
        """These bodies begin to run, by stages; of these these are elder ones."""
        self.assertIsNone(script_error(script))
        ahead = repr(script)
        for _ in range(2):
            self.assertEqual(repr(runs(script)), repr(tuple(told)))
            self.assertEqual(repr(elder(script)), repr(tuple(elders)))
        for stage in range(len(script[2])):
            for place in bodies(script):
                with self.subTest(stage=stage, place=place):
                    if (stage, place) in told:
                        self.check_way(script, stage, place)
                    else:
                        self.assertIsNone(run_way(script, stage, place))
        self.assertEqual(repr(script), ahead)

    def check_way(self, script, stage, place):
        """The body begins to run in the last deed of its way, done in the stage."""
        way = run_way(script, stage, place)
        self.assertIs(type(way), tuple)
        self.assertEqual(len(play(script, way)), len(way))
        done = done_by(script, way[:-1])
        self.assertEqual(done.stage, stage)
        self.assertIn(place, begun_by(done, way[-1])[1])
        self.assertEqual(repr(run_way(script, stage, place)), repr(way))

    def check_search(self, script, most, elders=(), most_things=2, most_holds=1):
        """The search finds the very same."""
        found = search(script, most, most_things, most_holds)
        self.check(script, sorted(found.runs), elders)
        return found


class Plain(RunCase):
    def test_the_document(self):
        everywhere = ((0, (0, 0, 0)), (0, (0, 0, 1)), (1, (0, 0, 0)), (1, (0, 0, 1)), (1, (1, 0, 0)), (1, (1, 0, 1)))
        self.check(S, everywhere, ((1, (0, 0, 0)), (1, (0, 0, 1))))
        self.check_search(S, 5, ((1, (0, 0, 0)), (1, (0, 0, 1))))

    def test_there_are_none(self):
        self.check(script_of((), ()), ())
        self.check(script_of(("man born make", "man act read"), (klass("man", "", does("act")),), ()), ())
        self.check(script_of(("man act call",), (klass("man", "", does("act")),)), ())
        self.check(script_of(("dog act call", "man born make"), (klass("man", "", does("act")),)), ())

    def test_makes_calls_reads_and_rings(self):
        man = klass("man", "", does("act"), does("born"), does("more"), looks("see"))
        script = script_of(
            ("man act call", "man born make", "man see read"), (man,), (("cut", "man", "act"), ("cut", "man", "born")),
        )
        self.check(
            script, ((0, (0, 0, 0)), (0, (0, 0, 1)), (0, (0, 0, 3)), (1, (0, 0, 0)), (1, (0, 0, 3))),
            ((1, (0, 0, 0)),),
        )
        self.check_search(script, 5, ((1, (0, 0, 0)),), most_things=1)

    def test_a_make_that_is_a_fault(self):
        script = script_of(("man born make",), (klass("man", "", does("born", FAULT)),))
        self.check(script, ((0, (0, 0, 0)),))
        # The body of a looks under born is run, too; a value is not.
        script = script_of(
            ("dog born make", "man born make"), (klass("dog", "", value("born", "w")), klass("man", "", looks("born"))),
        )
        self.check(script, ((0, (0, 1, 0)),))

    def test_a_body_that_is_a_fault(self):
        man = klass("man", "", does("act", ("do", ("own", "more")), ("do", ("own", "rest"))), does("more", FAULT),
                    does("rest"))
        script = script_of(("man act call", "man born make"), (man,))
        self.check(script, ((0, (0, 0, 0)), (0, (0, 0, 1))))

    def test_bodies_that_another_body_calls(self):
        kin = klass("kin", "", does("act"), does("far"), looks("view"))
        man = klass("man", "kin", does("act", ("do", ("up", "act")), ("do", ("past", "man", "far")),
                                       ("do", ("base", "kin", "view"))))
        script = script_of(("man act call", "man born make"), (kin, man))
        self.check(script, ((0, (0, 0, 0)), (0, (0, 0, 1)), (0, (0, 0, 2)), (0, (0, 1, 0))))

    def test_bodies_of_looks_that_are_read(self):
        man = klass("man", "", does("act", ("if", ("is", "see", "w"), (), ()), ("tell", "view")), looks("see"),
                    looks("view", ("do", ("own", "more"))), looks("wide"))
        script = script_of(("man act call", "man born make"), (man, ("part", "man", does("more"))))
        self.check(script, ((0, (0, 0, 0)), (0, (0, 0, 1)), (0, (0, 0, 2)), (0, (0, 1, 0))))

    def test_bodies_of_an_if_do_not_count(self):
        act = does("act", ("if", ("told", "stop"), (("do", ("own", "more")),), ()))
        man = klass("man", "", act, does("more"))
        script = script_of(("man act call", "man born make"), (man,))
        self.check(script, ((0, (0, 0, 0)), (0, (0, 0, 1))))
        script = script_of(("man act call", "man born make"), (man,), words=("go",))
        self.check(script, ((0, (0, 0, 0)),))

    def test_a_guest_of_one_class_alone(self):
        act = does("act", ("if", ("guest", "dog"), (("do", ("own", "more")),), ()))
        offers = ("cat born make", "dog born make", "man act call", "man born make")
        steps = (klass("cat", ""), klass("man", "", act, does("more")), klass("dog", ""))
        self.check(script_of(offers, steps), ((0, (0, 1, 0)), (0, (0, 1, 1))))
        self.check(script_of(offers[:1] + offers[2:], steps), ((0, (0, 1, 0)),))

    def test_holds_run_nothing(self):
        # In stage 1 act is behind an own field: only what was held ahead can be run.
        script = script_of(
            ("man act call", "man born make"), (klass("man", "", does("act"), value("born", "w")),),
            (("fill", "man", "act", "w"),),
        )
        self.check(script, ())
        script = script_of(
            ("man act call", "man born make"), (klass("man", "", does("act")),),
            (("fill", "man", "act", "w"), ("part", "man", value("born", "w"))),
        )
        self.check(script, ((0, (0, 0, 0)), (1, (0, 0, 0))))
        script = script_of(("man act call", "man born make"), (klass("man", "", looks("act")),))
        self.check(script, ((0, (0, 0, 0)),))

    def test_only_behind_a_body_that_was_held(self):
        script = script_of(
            ("man act call", "man born make", "man see read"),
            (klass("man", "", does("act", ("put", "n", "w")), does("more"), looks("see")),),
            (("part", "man", does("act")), ("clear", "man", "n"),
             ("part", "man", looks("see", ("if", ("has", "n"), (("do", ("own", "more")),), ())))),
        )
        told = ((0, (0, 0, 0)), (0, (0, 0, 2)), (1, (0, 0, 0)), (1, (0, 0, 1)), (1, (1, 0, 0)), (1, (1, 2, 0)))
        self.check(script, told, ((1, (0, 0, 0)),))
        self.check_search(script, 7, ((1, (0, 0, 0)),), most_things=1)


class Many(RunCase):
    """The 41st body of a deed does not begin to run."""

    def check_last(self, calls, begins):
        """Behind act and so many other bodies last begins, or does not."""
        # Each of these words stands for a body by which so many begin to run.
        rows, left = [], calls
        for n, size in (("most", 31), ("fifteen", 15), ("seven", 7), ("three", 3), ("one", 1)):
            if left >= size and len(rows) < 3:
                rows.append(("do", ("own", n)))
                left -= size
        self.assertEqual(left, 0)
        sizes = (
            does("fifteen", ("do", ("own", "seven")), ("do", ("own", "seven"))),
            does("seven", ("do", ("own", "three")), ("do", ("own", "three"))),
            does("three", ("do", ("own", "one")), ("do", ("own", "one"))), does("one"),
        )
        script = script_of(
            ("man act call", "man born make"), (klass("kin", "", *sizes), klass(
                "man", "kin", does("act", *rows, ("do", ("own", "last"))), does("last"),
                does("most", ("do", ("own", "fifteen")), ("do", ("own", "fifteen"))),
            )),
        )
        self.assertIsNone(script_error(script))
        answer = play(script, (("make", "man", 0, "go"), ("call", 0, "act", "go", None)))[-1]
        self.assertEqual(answer, ("said", "") if begins else ("fault", "long", "last"))
        self.assertIs((0, (0, 1, 1)) in runs(script), begins)
        self.assertIs(run_way(script, 0, (0, 1, 1)) is not None, begins)
        if begins:
            self.check_way(script, 0, (0, 1, 1))

    def test_the_last_one(self):
        self.check_last(31, True)
        self.check_last(38, True)
        self.check_last(39, False)

    def test_none_of_them_is_another_deed(self):
        # last is begun by a deed of its own.
        man = klass("man", "", does("act", ("do", ("own", "act"))), does("last"))
        self.check(script_of(("man act call", "man born make"), (man,)), ((0, (0, 0, 0)),))
        script = script_of(("man act call", "man born make", "man last call"), (man,))
        self.check(script, ((0, (0, 0, 0)), (0, (0, 0, 1))))


class Elder(RunCase):
    ACT = does("act", ("put", "n", "w"))

    def script(self, *steps):
        """A man whose act is held, then these steps; act is body (0, 0, 0)."""
        return script_of(("man act call", "man born make"), (klass("man", "", self.ACT),), steps)

    FIRST = ((0, (0, 0, 0)),)
    BOTH = ((0, (0, 0, 0)), (1, (0, 0, 0)))

    def test_nothing_happened(self):
        self.check(self.script(), self.BOTH)
        self.check(self.script(("part", "man", does("more")), ("rebase", "man", ())), self.BOTH)

    def test_the_name_is_forgotten(self):
        self.check(self.script(("forget", "man")), self.BOTH, self.BOTH[1:])

    def test_the_name_is_bound_to_a_newer_class(self):
        self.check(self.script(klass("man", "")), self.BOTH, self.BOTH[1:])
        newer = self.BOTH + ((1, (1, 0, 0)),)
        self.check(self.script(klass("man", "", self.ACT)), newer, self.BOTH[1:])
        self.check(self.script(klass("man", "man")), self.BOTH, self.BOTH[1:])

    def test_forgotten_and_bound_again(self):
        self.check(self.script(("forget", "man"), klass("man", "")), self.BOTH, self.BOTH[1:])

    def test_another_name(self):
        self.check(self.script(klass("dog", "man")), self.BOTH)

    def test_the_part_was_cut(self):
        self.check(self.script(("cut", "man", "act")), self.BOTH, self.BOTH[1:])

    def test_the_part_was_replaced(self):
        self.check(self.script(("part", "man", value("act", "w"))), self.BOTH, self.BOTH[1:])
        for body in (looks("act"), does("act")):
            self.check(self.script(("part", "man", body)), self.BOTH + ((1, (1, 0, 0)),), self.BOTH[1:])

    def test_by_an_equal_body(self):
        newer = self.BOTH + ((1, (1, 0, 0)),)
        self.check(self.script(("part", "man", self.ACT)), newer, self.BOTH[1:])
        script = self.script(("cut", "man", "act"), ("part", "man", self.ACT))
        self.check(script, self.BOTH + ((1, (1, 1, 0)),), self.BOTH[1:])

    def test_within_the_same_stage(self):
        # Whoever is bound behind the stage tells it, also of what was made ahead.
        script = script_of(
            ("man act call", "man born make"),
            (klass("man", "", self.ACT), klass("man", "man"),), (klass("man", "", self.ACT), ("lead", "man")),
        )
        told = ((0, (0, 0, 0)), (1, (0, 0, 0)), (1, (1, 0, 0)))
        self.check(script, told, told[:2])
        self.check_search(script, 5, told[:2])

    def test_a_class_that_goes_on_without_its_name(self):
        # The dog's body is run by men, who are kin to it.
        script = script_of(
            ("man act call", "man born make"), (klass("dog", "", self.ACT), klass("man", "dog")),
            (("forget", "dog"),), (klass("dog", ""),),
        )
        told = ((0, (0, 0, 0)), (1, (0, 0, 0)), (2, (0, 0, 0)))
        self.check(script, told, told[1:])

    def test_a_stage_that_fails(self):
        script = self.script(("cut", "man", "void"), ("forget", "man"))
        self.check(script, self.BOTH)

    def test_looks_and_born(self):
        script = script_of(
            ("man born make", "man see read"), (klass("man", "", does("born"), looks("see")),),
            (klass("man", "man"),),
        )
        told = ((0, (0, 0, 0)), (0, (0, 0, 1)), (1, (0, 0, 0)), (1, (0, 0, 1)))
        self.check(script, told, told[2:])


class AnyValue(RunCase):
    ITEMS = (
        None, True, False, -1, 3, 10 ** 29, "", "act", (), [], {}, (0,), (0, 0), (0, 0, 0, 0), [0, 0, 0],
        (0, 0, False), (True, 0, 0), (0, 0, None), (0, 0, "0"), ("0", 0, 0), (0, (0,), 0), ((0, 0, 0),), {"0": 0},
        (0, 0, []), ([], {}, ()), (-1, 0, 0), (0, 0, 2), (0, 1, 0), (2, 0, 0), (10 ** 29, 0, 0), 0, 1, 2,
    )

    def test_no_run(self):
        script = script_of(
            ("man act call", "man born make"),
            (klass("man", "", does("act"), value("val", "w")),), (("part", "man", value("act", "w")),),
        )
        self.check(script, ((0, (0, 0, 0)), (1, (0, 0, 0))), ((1, (0, 0, 0)),))
        for item in self.ITEMS:
            for stage, place in ((0, item), (1, item), (item, (0, 0, 0)), (item, item), (2, (0, 0, 0))):
                if repr(stage) not in "01" or place != (0, 0, 0) or "F" in repr(place):
                    with self.subTest(stage=stage, place=place):
                        ahead = repr((stage, place))
                        self.assertIsNone(run_way(script, stage, place))
                        self.assertEqual(repr((stage, place)), ahead)

    def test_true_and_false_are_no_numbers(self):
        script = script_of(
            ("man act call", "man born make"),
            (klass("dog", "", does("act")), klass("man", "", does("act"), does("see"))),
            (("part", "man", does("act")),),
        )
        self.check_way(script, 1, (0, 1, 0))
        self.check_way(script, 1, (1, 0, 0))
        for stage, place in (
            (True, (0, 1, 0)), (1, (0, True, 0)), (1, (False, 1, 0)), (1, (0, 1, False)), (1, (True, 0, 0)),
            (False, (0, 1, 0)),
        ):
            self.assertIsNone(run_way(script, stage, place))


class Searched(RunCase):
    """Other scripts, against the search."""

    def test_they_are_the_same(self):
        # In stage 1 the dog's act is a body of no class any more.
        script = script_of(
            ("man act call", "man born make", "pup act call", "pup born make", "pup see read"),
            (
                klass("dog", "", does("act", ("put", "n", "w")), looks("see", ("say", "w"))),
                klass("man", "", does("act", ("put", "n", "x"), ("do", ("base", "dog", "act")))),
                klass("pup", "dog", does(
                    "act", ("if", ("guest", "man"), (("give", ("up", "act")),), (("tell", "see"),)),
                )),
            ),
            (("cut", "dog", "act"), ("rebase", "pup", ("man",)), ("part", "pup", looks("see"))),
        )
        # The man's act is begun by the pup's; the pup's own one is still its own.
        found = search(script, 5)
        self.assertIn((1, (0, 1, 0)), found.runs)
        self.assertNotIn((1, (0, 0, 0)), found.runs)
        self.check(script, sorted(found.runs))

    def test_with_things_that_are_led(self):
        script = script_of(
            ("man act call", "man born make", "man go call"),
            (klass(
                "man", "", does("act", ("do", ("own", "go"))), does("born", ("keep", "n")), does("go", ("drop", "n")),
            ),),
            (klass("man", "", does("go", ("if", ("is", "n", "stop"), (), (("do", ("own", "act")),)))), ("lead", "man")),
            (("part", "man", does("act")), ("forget", "man")),
        )
        found = search(script, 6, most_things=1)
        elders = [
            run for run in sorted(found.runs) if run[0] == 2 or (run[0] == 1 and run[1][0] == 0)
        ]
        self.check(script, sorted(found.runs), elders)


class Most(RunCase):
    """With 60 entries there are runs, with 61 everything is too many."""

    def test_sixty(self):
        self.assertEqual(runs(FULL), ((0, (0, 0, 0)), (0, (0, 0, 1)), (0, (0, 0, 2))))
        self.check_way(FULL, 0, (0, 0, 2))
        self.assertIn((2, (0, 1, 1)), elder(SPLIT_FULL))
        self.check_way(SPLIT_FULL, 2, (0, 1, 1))

    def test_more(self):
        for script in TOO_MANY:
            for asked in (
                runs, elder, lambda script: run_way(script, 0, (0, 0, 0)), lambda script: run_way(script, None, []),
                lambda script: run_way(script, -1, (0, 0, 0)),
            ):
                with self.assertRaises(TooMany):
                    asked(script)


if __name__ == "__main__":
    unittest.main()
