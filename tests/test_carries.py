"""with_steps and fewest: carrying things over (point 13)."""

import itertools
import unittest

from acting import S, does, klass, looks, script_of, value
from crowded import CROWD, DOG, FULL, FULLER, MORE_OFFERS, OFFERS, SPLIT_FULL
from remadeclasses.carries import fewest, with_steps
from remadeclasses.errors import BadScript, TooMany
from remadeclasses.faults import is_safe
from remadeclasses.scripts import script_error
from samples import NO_TUPLES, NO_WORDS

CLEAR = ("clear", "man", "n")
NAME = (1, ("fill", "man", "name", "eve"))
TITLE = (1, ("fill", "man", "title", "sir"))


class CarryCase(unittest.TestCase):
    def check_with(self, script, steps, told):
        """The script with these steps is the one that is told."""
        self.assertIsNone(script_error(told))
        ahead = repr((script, steps))
        for _ in range(2):
            self.assertEqual(repr(with_steps(script, steps)), repr(told))
        self.assertEqual(repr((script, steps)), ahead)

    def check_bad(self, script, steps, place, why):
        """Both refuse these steps."""
        self.assertIsNone(script_error(script))
        ahead = repr((script, steps))
        for asked in (with_steps, fewest):
            with self.subTest(asked=asked, steps=steps):
                with self.assertRaises(BadScript) as caught:
                    asked(script, steps)
                self.assertEqual(repr((caught.exception.place, caught.exception.why)), repr((place, why)))
        self.assertEqual(repr((script, steps)), ahead)

    def check_fewest(self, script, steps, told):
        """These are the fewest; a search through all choices tells the same."""
        ahead = repr((script, steps))
        for _ in range(2):
            self.assertEqual(repr(fewest(script, steps)), repr(told))
        self.assertEqual(repr((script, steps)), ahead)
        safe = [
            numbers for many in range(len(steps) + 1) for numbers in itertools.combinations(range(len(steps)), many)
            if is_safe(with_steps(script, tuple(steps[number] for number in numbers)))
        ]
        self.assertEqual(safe[0] if safe else None, told)


class WithSteps(CarryCase):
    def test_none(self):
        for script in (S, script_of((), ()), script_of((), (), (), ())):
            self.check_with(script, (), script)

    def test_one(self):
        self.check_with(S, (NAME,), S[:2] + ((S[2][0], S[2][1] + (NAME[1],)),))
        self.check_with(S, ((0, CLEAR),), S[:2] + ((S[2][0] + (CLEAR,), S[2][1]),))
        self.check_with(script_of((), ()), ((0, DOG),), script_of((), (DOG,)))

    def test_several(self):
        cut, lead, forget = ("cut", "man", "n"), ("lead", "man"), ("forget", "man")
        script = script_of((), (DOG,), (), (CLEAR, CLEAR))
        self.check_with(
            script, ((2, cut), (0, lead), (2, forget), (0, forget), (0, cut), (1, CLEAR)),
            script_of((), (DOG, lead, forget, cut), (CLEAR,), (CLEAR, CLEAR, cut, forget)),
        )
        self.check_with(script_of((), ()), ((0, CLEAR),) * 4, script_of((), (CLEAR,) * 4))

    def test_every_form_of_a_step(self):
        part = does("act", ("do", ("own", "act")))
        for step in (
            klass("man", "dog cat", part, looks("see"), value("val", "w")), ("part", "man", part), ("cut", "man", "n"),
            ("forget", "man"), ("lead", "man"), ("rebase", "man", ()), ("rebase", "man", ("dog",)),
            ("fill", "man", "n", "w"), CLEAR,
        ):
            self.check_with(S, ((1, step),), S[:2] + ((S[2][0], S[2][1] + (step,)),))

    def test_a_stage_that_is_too_long(self):
        self.check_bad(S, ((1, CLEAR),) * 3, (2, 1), "stage")
        self.check_bad(S, ((0, CLEAR),) * 4, (2, 0), "stage")
        self.check_with(S, ((1, CLEAR),) * 2 + ((0, CLEAR),) * 3, S[:2] + ((
            S[2][0] + (CLEAR,) * 3, S[2][1] + (CLEAR,) * 2,
        ),))
        # The stage ahead goes first, and it goes ahead of its steps.
        self.check_bad(S, ((1, CLEAR),) * 3 + ((0, ("cut",)),), (2, 0, 1), "step")
        self.check_bad(S, ((0, ("cut",)),) * 4, (2, 0), "stage")

    def test_what_is_no_step(self):
        for step in NO_TUPLES + NO_WORDS + (
            ("cut",), ("cut", "man"), ("cut", "man", "n", "m"), ("cut", "Man", "n"), ["cut", "man", "n"],
            ("clears", "man", "n"), ("class", "man", ["dog"], ()), ("fill", "man", "n"), ("lead", "man", "n"),
        ):
            self.check_bad(S, ((1, step),), (2, 1, 2), "step")
            self.check_bad(S, ((1, CLEAR), (1, step)), (2, 1, 3), "step")
            self.check_bad(script_of((), ()), ((0, step), (0, step)), (2, 0, 0), "step")

    def test_what_is_wrong_within_a_step(self):
        up = ("n", "does", (("do", ("up", "n")),))
        self.check_bad(S, ((1, ("part", "man", up)),), (2, 1, 2, 2, 2, 0), "up")
        self.check_bad(S, ((0, ("part", "man", ("n", "value", 1))),), (2, 0, 1, 2), "part")
        self.check_bad(S, ((0, ("class", "man", (), [])),), (2, 0, 1, 3), "parts")
        self.check_bad(S, ((0, ("class", "man", (), (("n", "does", []),))),), (2, 0, 1, 3, 0, 2), "body")

    def test_what_is_no_tuple_of_pairs(self):
        for steps in NO_TUPLES + NO_WORDS:
            if steps != ():
                self.check_bad(S, steps, (), "steps")
        for pair in NO_TUPLES + NO_WORDS + (
            (), (1,), (1, CLEAR, CLEAR), [1, CLEAR], (CLEAR,), CLEAR, (CLEAR, 1), {1: CLEAR}, (True, CLEAR),
            (False, CLEAR), (-1, CLEAR), (2, CLEAR), (10 ** 29, CLEAR), (None, CLEAR), ("1", CLEAR), ((1,), CLEAR),
            ([], CLEAR), ({}, CLEAR),
        ):
            self.check_bad(S, (pair,), (), "steps")
            self.check_bad(S, ((1, CLEAR), pair), (), "steps")
            self.check_bad(S, (pair, (1, CLEAR)), (), "steps")
        self.check_bad(S, [(1, CLEAR)], (), "steps")
        self.check_bad(S, (1, CLEAR), (), "steps")

    def test_no_pairs_go_ahead_of_bad_steps(self):
        self.check_bad(S, ((0, ("cut",)), (2, CLEAR)), (), "steps")
        self.check_bad(S, ((0, CLEAR),) * 9 + ((True, CLEAR),), (), "steps")

    def test_the_number_of_stages(self):
        for many in (1, 2, 3):
            script = script_of((), *[()] * many)
            for stage in range(many):
                stages = [()] * many
                stages[stage] = (CLEAR,)
                self.check_with(script, ((stage, CLEAR),), script_of((), *stages))
            self.check_bad(script, ((many, CLEAR),), (), "steps")


class Fewest(CarryCase):
    def test_the_document(self):
        self.check_fewest(S, (NAME, TITLE), (1,))
        self.check_fewest(S, (TITLE, NAME), (0,))
        self.check_fewest(S, (TITLE,), (0,))

    def test_none_are_needed(self):
        safe = script_of(("man born make",), (klass("man", ""),))
        self.check_fewest(safe, (), ())
        self.check_fewest(safe, ((0, CLEAR), (0, ("lead", "man"))), ())

    def test_none_that_make_it_safe(self):
        self.check_fewest(S, (), None)
        self.check_fewest(S, (NAME,), None)
        self.check_fewest(S, (NAME, (0, CLEAR)), None)

    def test_several_of_the_same_size(self):
        self.check_fewest(S, (TITLE, TITLE), (0,))
        other = (1, ("fill", "man", "title", "madam"))
        self.check_fewest(S, ((0, CLEAR), other, TITLE), (1,))
        self.check_fewest(S, ((0, CLEAR), (0, CLEAR), other, TITLE), (2,))
        # Of two that are needed both, too.
        values = tuple((stage, ("part", "man", value(n, "w"))) for stage, n in ((0, "a"), (0, "b"), (1, "a"), (1, "b")))
        self.check_fewest(self.TWO, values, (0, 1))
        self.check_fewest(self.TWO, values[1:], (0, 1))
        self.check_fewest(self.TWO, (values[1], values[3], values[2], values[0]), (0, 2))
        self.check_fewest(self.TWO, (values[1], values[3]), None)
        # The first and the last go together, and those between.
        acts = tuple((1, ("part", "man", does("act", ("tell", n)))) for n in ("c", "d"))
        others = tuple((0, ("part", "man", value(n, "w"))) for n in ("d", "c"))
        self.check_fewest(self.TWO, acts + others, (0, 3))

    def test_fewer_ones_behind(self):
        both = tuple((0, ("part", "man", value(n, "w"))) for n in ("a", "b"))
        alone = (1, ("part", "man", does("act")))
        self.check_fewest(self.TWO, both, (0, 1))
        self.check_fewest(self.TWO, both + (alone,), (2,))

    # In stage 1 act reads a and b.
    TWO = script_of(
        ("man act call", "man born make"), (klass("man", "", does("act")),),
        (("part", "man", does("act", ("if", ("is", "a", "x"), (), ()), ("tell", "b"))),),
    )

    def test_several_that_are_all_needed(self):
        # Whoever is made in stage 1 gets nothing of a fill, and needs a born.
        fills = tuple((1, ("fill", "man", n, "w")) for n in "ab")
        born = (0, ("part", "man", does("born", ("put", "a", "w"), ("put", "b", "w"))))
        self.check_fewest(self.TWO, fills, None)
        self.check_fewest(self.TWO, fills + (born,), (2,))
        late = (1,) + born[1:]
        self.check_fewest(self.TWO, fills + (late,), (0, 1, 2))
        self.check_fewest(self.TWO, (late, (0, CLEAR), fills[1], (0, CLEAR), fills[0]), (0, 2, 4))

    def test_the_order_in_which_they_are_put_in(self):
        # Men that were made ahead of the clear lack n, unless they are led to another
        # class; a lead that comes ahead of this class leads nobody.
        script = script_of(
            ("man born make", "man see read"),
            (klass("man", "", does("born", ("put", "n", "w")), looks("see", ("tell", "n"))),), (("clear", "man", "n"),),
        )
        other, lead = (1, klass("man", "", looks("see"))), (1, ("lead", "man"))
        self.check_fewest(script, (other, lead), (0, 1))
        self.check_fewest(script, (lead, other), None)
        self.check_fewest(script, (lead, other, lead), (1, 2))
        fill, clear = (1, ("fill", "man", "n", "w")), (1, ("clear", "man", "n"))
        self.check_fewest(script, (clear, fill), (1,))
        self.check_fewest(script, (fill, clear), (0,))

    def test_a_step_that_makes_it_fail(self):
        # The cut fails, so the fill behind it is not run.
        self.check_fewest(S, ((1, ("cut", "man", "none")), TITLE), (1,))
        failing = S[:2] + ((S[2][0], S[2][1] + (("cut", "man", "none"),)),)
        self.check_fewest(failing, (TITLE,), None)

    def test_held_bodies_count(self):
        # The body that was held in stage 0 reads n, which the clear of stage 1 takes
        # away; a fill behind it gives it again.
        script = script_of(
            ("man act call", "man born make"),
            (klass("man", "", does("act", ("tell", "n")), does("born", ("put", "n", "w"))),),
            (("part", "man", does("act")), ("clear", "man", "n")),
        )
        self.check_fewest(script, ((1, ("fill", "man", "m", "w")), (1, ("fill", "man", "n", "w"))), (1,))
        self.assertIs(is_safe(script, held=False), True)
        self.check_fewest(script, (), None)

    def test_five(self):
        nothing = (0, CLEAR)
        self.check_fewest(S, (nothing, NAME, (0, ("lead", "man")), TITLE, nothing), (3,))
        self.check_fewest(S, (nothing, (0, ("fill", "man", "title", "w")), nothing, NAME), None)


class Most(CarryCase):
    def check_too_many(self, script, steps):
        ahead = repr((script, steps))
        with self.assertRaises(TooMany):
            fewest(script, steps)
        with_steps(script, steps)
        self.assertEqual(repr((script, steps)), ahead)

    def test_none_of_them(self):
        self.check_too_many(FULLER, ())
        # With the forget there are no more dogs, so it would be few enough.
        self.check_too_many(FULLER, ((0, ("forget", "dog")),))
        self.assertIs(is_safe(with_steps(FULLER, ((0, ("forget", "dog")),))), True)

    def test_all_of_them(self):
        full = script_of(MORE_OFFERS, (CROWD,))
        self.check_fewest(full, ((0, CLEAR),), ())
        self.check_too_many(full, ((0, DOG),))
        self.check_too_many(full, ((0, CLEAR), (0, DOG)))

    def test_some_of_them(self):
        # All of them are few enough, but the first alone makes one more.
        full = script_of(MORE_OFFERS, (CROWD,))
        self.check_too_many(full, ((0, DOG), (0, ("forget", "dog"))))
        self.check_fewest(full, ((0, ("forget", "dog")), (0, CLEAR)), ())
        # Also behind a safe choice, and if it makes none safe.
        unsafe = script_of(OFFERS + ("dog born make", "man act call"), (CROWD,))
        self.check_too_many(unsafe, ((0, CLEAR), (0, DOG), (0, ("forget", "dog"))))

    def test_a_safe_one_ahead(self):
        self.assertIs(is_safe(script_of(MORE_OFFERS, (CROWD,))), True)
        self.check_too_many(script_of(MORE_OFFERS, (CROWD,), ()), ((0, CLEAR), (1, CLEAR), (1, DOG)))

    def test_bad_scripts_go_ahead(self):
        self.check_bad(FULLER, ((0, ("cut",)),), (2, 0, 2), "step")
        self.check_bad(FULLER, ((1, CLEAR),), (), "steps")
        self.check_bad(FULLER, ((0, CLEAR),) * 3, (2, 0), "stage")
        self.check_bad(FULLER, [], (), "steps")

    def test_few_enough(self):
        self.check_fewest(FULL, ((0, CLEAR), (0, ("clear", "man", "a"))), ())
        self.check_fewest(SPLIT_FULL, ((2, CLEAR),), None)


if __name__ == "__main__":
    unittest.main()
