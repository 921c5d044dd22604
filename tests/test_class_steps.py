"""made and parts_of: the steps, those that fail, and what is no stage or class (point 6)."""

import unittest

from acting import does, klass, looks, script_of, value
from remadeclasses.classes import made, parts_of
from remadeclasses.errors import NoSuch
from samples import NO_TUPLES, NO_WORDS

# Behind this: a and b with bases, c without, all bound.
FIRST = (klass("a", "", value("n", "w")), klass("b", "a", does("m"), value("n", "x")), klass("c", ""))

# Each of them is no number of a stage or of a class.
NO_NUMBERS = tuple(item for item in NO_WORDS if repr(item) not in ("0", "1")) + (
    -1, -2, 10 ** 29, -10 ** 29, True, False, (0,), [0], {"a": 0}, "0",
)


class StepCase(unittest.TestCase):
    def parts(self, script, stage):
        """The parts of all classes behind a stage."""
        return {key: parts_of(script, stage, *key) for key, _ in made(script, stage)[1]}

    def check_fails(self, step, ahead=FIRST):
        """The step fails, changes nothing, and the steps behind it are not run."""
        first = script_of((), ahead)
        behind = klass("z", "")
        with self.subTest(step=step):
            again = script_of((), ahead, (step, behind), (behind,))
            self.assertEqual(made(again, 0), made(first, 0))
            self.assertEqual(made(again, 1), made(first, 0)[:2] + (0,))
            self.assertEqual(self.parts(again, 1), self.parts(first, 0))
            names, _, ran = made(again, 2)
            self.assertIn(("z", 0), names)
            self.assertEqual(ran, 1)
            # Within a stage what was run ahead of it stays.
            amid = script_of((), ahead, (behind, step, klass("y", "")))
            self.assertEqual(made(amid, 1), made(script_of((), ahead, (behind,)), 1))
            self.assertEqual(made(amid, 1)[2], 1)

    def check_runs(self, step, ahead=FIRST):
        """The step does not fail."""
        with self.subTest(step=step):
            self.assertEqual(made(script_of((), ahead, (step, klass("z", ""))), 1)[2], 2)


class Failing(StepCase):
    def test_a_word_that_is_not_bound(self):
        for step in (
            ("part", "d", value("n", "w")), ("cut", "d", "n"), ("forget", "d"), ("lead", "d"),
            ("rebase", "d", ()), ("fill", "d", "n", "w"), ("clear", "d", "n"),
        ):
            self.check_fails(step)
            bound = step[:1] + ("a",) + step[2:]
            self.check_runs(bound)
            self.check_fails(bound, FIRST + (("forget", "a"),))
            self.check_fails(step, FIRST[:2])
        self.check_fails(klass("a", "d"))
        self.check_fails(klass("a", "c d"))
        self.check_fails(klass("d", "d"))
        self.check_fails(klass("d", "a"), FIRST + (("forget", "a"),))
        self.check_fails(("rebase", "c", ("d",)))
        self.check_fails(("rebase", "c", ("a", "d")))
        self.check_fails(("rebase", "c", ("a",)), FIRST + (("forget", "a"),))

    def test_a_class_needs_not_be_bound(self):
        self.check_runs(klass("d", ""))
        self.check_runs(klass("a", "a"))
        self.check_runs(klass("a", ""), FIRST + (("forget", "a"),))

    def test_a_base_twice(self):
        for bases in ("a a", "b c b", "a a a", "c b b", "a a d"):
            self.check_fails(klass("d", bases))
            self.check_fails(("rebase", "c", tuple(bases.split())))
        self.check_fails(klass("a", "a a"))

    def test_no_order_for_the_class_itself(self):
        for bases in ("a b", "a c b", "c a b"):
            self.check_fails(klass("d", bases))
            self.check_fails(("rebase", "c", tuple(bases.split())))
        self.check_runs(klass("d", "b a"))
        self.check_runs(klass("d", "b c a"))
        self.check_runs(("rebase", "c", ("b", "a")))

    def test_no_order_for_another_class(self):
        ahead = (klass("a", ""), klass("b", ""), klass("c", "a b"), klass("d", ""))
        self.check_fails(("rebase", "b", ("a",)), ahead)
        self.check_runs(("rebase", "a", ("b",)), ahead)
        self.check_runs(("rebase", "b", ("a",)), ahead[:2] + (klass("c", "b a"),))
        # The class without an order may be an elder one, or have no name any more.
        self.check_fails(("rebase", "b", ("a",)), ahead[:3] + (klass("c", ""),))
        self.check_fails(("rebase", "b", ("a",)), ahead[:3] + (("forget", "c"),))

    def test_no_order_for_a_base_made_later(self):
        # d has e as its base, which was made behind it and would have no order.
        ahead = (klass("d", ""), klass("a", ""), klass("b", ""), klass("e", "a b"))
        again = script_of((), ahead, (("rebase", "d", ("e",)), ("rebase", "b", ("a",)), klass("z", "")))
        names, classes, ran = made(again, 1)
        self.assertEqual(ran, 1)
        self.assertEqual(names, (("a", 0), ("b", 0), ("d", 0), ("e", 0)))
        self.assertEqual(dict(classes)[("d", 0)], (("d", 0), ("e", 0), ("a", 0), ("b", 0)))

    def test_a_rebase_in_a_ring(self):
        for c, bases in (("a", "a"), ("a", "b"), ("b", "b"), ("c", "c"), ("a", "c b"), ("a", "c a")):
            self.check_fails(("rebase", c, tuple(bases.split())))
        self.check_runs(("rebase", "b", ("c",)))
        self.check_runs(("rebase", "b", ("a",)))
        self.check_runs(("rebase", "a", ("c",)))
        # The elder b is below a, the one that is bound is not.
        self.check_runs(("rebase", "a", ("b",)), FIRST + (klass("b", ""),))
        self.check_fails(("rebase", "a", ("c",)), FIRST[:2] + (klass("c", "b"), klass("b", "")))

    def test_a_cut_of_what_the_class_itself_has_not(self):
        self.check_fails(("cut", "a", "m"))
        self.check_fails(("cut", "c", "n"))
        self.check_fails(("cut", "b", "n"), FIRST + (("cut", "b", "n"),))
        self.check_runs(("cut", "b", "m"))

    def test_moves_behind_a_step_that_fails_are_not_run(self):
        script = script_of((), FIRST, (("fill", "a", "n", "w"), ("lead", "a"), ("cut", "a", "x"), ("clear", "a", "n")))
        self.assertEqual(made(script, 1)[2], 2)

    def test_it_fails_again_in_each_stage(self):
        step = ("cut", "a", "m")
        script = script_of((), FIRST + (step,), (step, step), (("lead", "a"), step, ("lead", "a")))
        self.assertEqual([made(script, k)[2] for k in range(3)], [3, 0, 1])


class Made(StepCase):
    def test_nothing_is_made(self):
        self.assertEqual(made(script_of((), ()), 0), ((), (), 0))
        self.assertEqual(made(script_of((), (), ()), 1), ((), (), 0))

    def test_numbers_go_on_by_name(self):
        script = script_of(
            (), (klass("b", ""), klass("a", ""), klass("b", ""), ("forget", "b")),
            (("forget", "a"), klass("b", ""), klass("c", "b"), klass("b", "")), (klass("a", ""),),
        )
        self.assertEqual(made(script, 0), (
            (("a", 0),), ((("a", 0), (("a", 0),)), (("b", 0), (("b", 0),)), (("b", 1), (("b", 1),))), 4,
        ))
        names, classes, ran = made(script, 1)
        self.assertEqual((names, ran), ((("b", 3), ("c", 0)), 4))
        self.assertEqual([key for key, _ in classes], [
            ("a", 0), ("b", 0), ("b", 1), ("b", 2), ("b", 3), ("c", 0),
        ])
        self.assertEqual(dict(classes)[("c", 0)], (("c", 0), ("b", 2)))
        self.assertEqual(made(script, 2)[0], (("a", 1), ("b", 3), ("c", 0)))

    def test_more_than_nine_classes_of_a_name(self):
        stage = (klass("a", ""),) * 4
        script = script_of((), stage, stage, stage)
        names, classes, ran = made(script, 2)
        self.assertEqual((names, ran), ((("a", 11),), 4))
        self.assertEqual([key for key, _ in classes], [("a", number) for number in range(12)])

    def test_all_steps_count(self):
        script = script_of((), FIRST, (
            ("part", "a", value("n", "w")), ("cut", "a", "n"), ("lead", "a"), ("rebase", "a", ()),
        ), (("fill", "a", "n", "w"), ("clear", "a", "n"), ("forget", "a")))
        self.assertEqual([made(script, k)[2] for k in range(3)], [3, 4, 3])

    def test_asked_again_it_tells_the_same(self):
        script = script_of((), FIRST, (("rebase", "b", ()), ("cut", "b", "n")))
        ahead = repr(script)
        for stage in (1, 0, 1, 0):
            told = repr(made(script, stage))
            self.assertEqual(told, repr(made(script, stage)))
            self.assertEqual(repr(parts_of(script, stage, "b", 0)), repr(parts_of(script, stage, "b", 0)))
        self.assertEqual(repr(script), ahead)


class Parts(StepCase):
    def test_the_class_itself_has_them(self):
        script = script_of((), FIRST)
        self.assertEqual(self.parts(script, 0), {
            ("a", 0): (("n", "value", "w"),),
            ("b", 0): (("m", "does", ()), ("n", "value", "x")),
            ("c", 0): (),
        })

    def test_part_puts_and_replaces(self):
        body = (("say", "w"),)
        script = script_of((), FIRST, (
            ("part", "b", looks("n", *body)), ("part", "b", value("a", "w")),
            ("part", "c", does("z", *body)), ("part", "c", value("a", "w")),
        ), (("part", "b", value("m", "w")), ("part", "b", value("o", "w")), klass("b", "")))
        self.assertEqual(parts_of(script, 0, "b", 0), FIRST[1][3])
        self.assertEqual(parts_of(script, 1, "b", 0), (
            ("a", "value", "w"), ("m", "does", ()), ("n", "looks", body),
        ))
        self.assertEqual(parts_of(script, 1, "c", 0), (("a", "value", "w"), ("z", "does", body)))
        self.assertEqual(parts_of(script, 2, "b", 0), (
            ("a", "value", "w"), ("m", "value", "w"), ("n", "looks", body), ("o", "value", "w"),
        ))
        self.assertEqual(parts_of(script, 2, "b", 1), ())

    def test_more_than_four(self):
        parts = tuple(("part", "a", value(n, "w")) for n in ("z", "b", "a", "y"))
        script = script_of((), FIRST[:1], parts, tuple(("part", "a", value(n, "w")) for n in "cx"))
        self.assertEqual([n for n, _, _ in parts_of(script, 2, "a", 0)], ["a", "b", "c", "n", "x", "y", "z"])

    def test_cut(self):
        script = script_of((), FIRST, (("cut", "b", "n"), ("cut", "a", "n")), (("part", "a", value("n", "v")),))
        self.assertEqual(parts_of(script, 1, "b", 0), (("m", "does", ()),))
        self.assertEqual(parts_of(script, 1, "a", 0), ())
        self.assertEqual(parts_of(script, 2, "a", 0), (("n", "value", "v"),))

    def test_elder_and_forgotten_classes_keep_them(self):
        script = script_of((), FIRST, (klass("a", "", value("m", "w")), ("cut", "a", "m"), ("forget", "b")))
        self.assertEqual(parts_of(script, 1, "a", 0), FIRST[0][3])
        self.assertEqual(parts_of(script, 1, "a", 1), ())
        self.assertEqual(parts_of(script, 1, "b", 0), FIRST[1][3])


class NoStageOrClass(StepCase):
    def refused(self, asked, *told):
        with self.assertRaises(NoSuch) as caught:
            asked(*told)
        return caught.exception.value

    def test_no_stage(self):
        for many in (1, 2, 3):
            script = script_of((), *[FIRST[:1] for _ in range(many)])
            for stage in range(many):
                self.assertEqual(made(script, stage)[0], (("a", stage),))
            for stage in (many, many + 1) + NO_NUMBERS:
                with self.subTest(stage=stage):
                    self.assertIs(self.refused(made, script, stage), stage)
                    self.assertIs(self.refused(parts_of, script, stage, "a", 0), stage)

    def test_no_stage_goes_ahead_of_no_class(self):
        self.assertEqual(self.refused(parts_of, script_of((), FIRST), 1, "d", 0), 1)
        self.assertEqual(repr(self.refused(parts_of, script_of((), FIRST), True, [], {})), "True")

    def test_no_class(self):
        script = script_of((), FIRST, (klass("a", ""), klass("d", "")))
        for stage, c, number in (
            (0, "a", 1), (0, "d", 0), (1, "a", 2), (1, "d", 1), (1, "e", 0), (0, "c", 1),
        ):
            self.assertEqual(self.refused(parts_of, script, stage, c, number), (c, number))
        for number in NO_NUMBERS:
            for stage in (0, 1):
                with self.subTest(number=number):
                    told = self.refused(parts_of, script, stage, "a", number)
                    self.assertEqual(repr(told), repr(("a", number)))
        for c in NO_WORDS + NO_TUPLES + (("a", 0), "A", "aa"):
            with self.subTest(c=c):
                self.assertEqual(repr(self.refused(parts_of, script, 1, c, 0)), repr((c, 0)))
