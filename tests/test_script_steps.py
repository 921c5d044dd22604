"""script_error: steps and parts (point 5)."""

from samples import (
    LONG, NO_TUPLES, NO_WORDS, ScriptCase, put, with_part, with_parts, with_stages, with_step,
)

BODY = (("say", "a"),)

# Each form of a step, and the places of the words in it.
FORMS = (
    (("class", "a", (), ()), (1,)),
    (("part", "a", ("n", "value", "w")), (1,)),
    (("cut", "a", "n"), (1, 2)),
    (("forget", "a"), (1,)),
    (("lead", "a"), (1,)),
    (("rebase", "a", ()), (1,)),
    (("fill", "a", "n", "w"), (1, 2, 3)),
    (("clear", "a", "n"), (1, 2)),
)

BASES = ((), ("a",), (LONG,), ("a", "a"), ("b", "a"), ("a", "b", "c"), ("b", "b", "b"))
NO_BASES = NO_TUPLES + (
    ("a", "b", "c", "d"), ("a", "a", "a", "a"), ["a"], "abc", (("a",),), (None,), ("a", []),
)


class Steps(ScriptCase):
    def check_step(self, step, told):
        """The step alone, and behind others in another stage."""
        self.check(with_step(step), told and ((2, 0, 0) + told[0], told[1]))
        others = (("lead", "a"), ("forget", "a"))
        self.check(with_stages((), others + (step,) + others[:1]), told and ((2, 1, 2) + told[0], told[1]))

    def test_each_form(self):
        for step, words in FORMS:
            self.check_step(step, None)
            for at in words:
                for word in ("a", "z", LONG, "born", "class", "does"):
                    self.check_step(put(step, at, word), None)

    def test_no_word_in_the_place_of_a_word(self):
        for step, words in FORMS:
            for at in words:
                for word in NO_WORDS:
                    self.check_step(put(step, at, word), ((), "step"))

    def test_too_short_or_too_long(self):
        for step, _ in FORMS:
            for many in range(len(step)):
                self.check_step(step[:many], ((), "step"))
            for more in ("a", (), None):
                self.check_step(step + (more,), ((), "step"))

    def test_no_tuple(self):
        for step in NO_TUPLES:
            self.check_step(step, ((), "step"))
        for step, _ in FORMS:
            self.check_step(list(step), ((), "step"))

    def test_the_first_word_of_no_form(self):
        for word in NO_WORDS + ("say", "classes", "stage", "offer", "words", "make", "value", "does"):
            for step, _ in FORMS:
                self.check_step(put(step, 0, word), ((), "step"))

    def test_the_first_word_of_another_form(self):
        self.check_step(("forget", "a", "n"), ((), "step"))
        self.check_step(("cut", "a"), ((), "step"))
        self.check_step(("rebase", "a", "n"), ((), "step"))
        self.check_step(("rebase", "a", (), ()), ((), "step"))
        self.check_step(("cut", "a", ()), ((), "step"))
        self.check_step(("fill", "a", "n"), ((), "step"))
        self.check_step(("clear", "a", "n", "w"), ((), "step"))
        self.check_step(("class", "a", ()), ((), "step"))

    def test_bases(self):
        for bases in BASES:
            self.check_step(("class", "a", bases, ()), None)
            self.check_step(("rebase", "a", bases), None)
        for bases in NO_BASES:
            self.check_step(("class", "a", bases, ()), ((), "step"))
            self.check_step(("rebase", "a", bases), ((), "step"))
        for word in NO_WORDS:
            for bases in ((word,), ("a", word), (word, "a", "a")):
                self.check_step(("class", "a", bases, ()), ((), "step"))
                self.check_step(("rebase", "a", bases), ((), "step"))

    def test_any_value_stands_for_parts_and_part_in_a_form(self):
        for value in NO_TUPLES:
            self.check_step(("class", "a", (), value), ((3,), "parts"))
            self.check_step(("part", "a", value), ((2,), "part"))

    def test_the_step_goes_ahead_of_its_parts(self):
        self.check_step(("class", "A", (), None), ((), "step"))
        self.check_step(("class", "a", ["b"], None), ((), "step"))
        self.check_step(("class", "a", (), None, None), ((), "step"))
        self.check_step(("part", "A", None), ((), "step"))
        self.check_step(("part", "a", None, None), ((), "step"))

    def test_the_first_wrong_step_is_told(self):
        self.check(with_stages((("lead", "a"), ("lead",), None)), ((2, 0, 1), "step"))
        self.check(with_stages((("class", "a", (), None), None)), ((2, 0, 0, 3), "parts"))
        self.check(with_stages((None, ("class", "a", (), None))), ((2, 0, 0), "step"))
        self.check(with_stages((("part", "a", ("n", "does", None)), None)), ((2, 0, 0, 2, 2), "body"))


class Parts(ScriptCase):
    def test_up_to_four(self):
        parts = tuple((n, "value", "w") for n in ("a", "b", "c", "d", "e", "f"))
        for many in range(5):
            self.check(with_parts(parts[:many]), None)
        for many in (5, 6):
            self.check(with_parts(parts[:many]), ((2, 0, 0, 3), "parts"))

    def test_no_tuple(self):
        for parts in NO_TUPLES + ([("n", "value", "w")],):
            self.check(with_parts(parts), ((2, 0, 0, 3), "parts"))

    def test_it_goes_ahead_of_each_part(self):
        self.check(with_parts((None,) * 5), ((2, 0, 0, 3), "parts"))
        self.check(with_parts([None]), ((2, 0, 0, 3), "parts"))

    def test_a_part_in_the_place_of_the_parts(self):
        self.check(with_parts(("n", "value", "w")), ((2, 0, 0, 3, 0), "part"))


class Part(ScriptCase):
    def check_part(self, part, told):
        """The part alone, behind and ahead of others, and in the step part."""
        others = (("a", "value", "w"), ("b", "does", BODY), ("zzzzzzzz", "looks", BODY))
        for ahead in range(3):
            self.check(
                with_parts(others[:ahead] + (part,) + others[2:]),
                told and ((2, 0, 0, 3, ahead) + told[0], told[1]),
            )
        self.check(with_part(part), told and ((2, 0, 0, 2) + told[0], told[1]))

    def test_each_sort(self):
        for n in ("c", "born", LONG, "does", "value"):
            self.check_part((n, "value", LONG), None)
            self.check_part((n, "does", BODY), None)
            self.check_part((n, "looks", BODY), None)
            self.check_part((n, "does", ()), None)
            self.check_part((n, "looks", ()), None)

    def test_no_tuple_of_three(self):
        for part in NO_TUPLES:
            self.check_part(part, ((), "part"))
        for right in (("n", "value", "w"), ("n", "does", BODY), ("n", "looks", BODY)):
            for part in ((), right[:1], right[:2], right + ("w",), right + ((),), list(right)):
                self.check_part(part, ((), "part"))

    def test_no_word(self):
        for word in NO_WORDS:
            self.check_part((word, "value", "w"), ((), "part"))
            self.check_part((word, "does", BODY), ((), "part"))
            self.check_part((word, "looks", BODY), ((), "part"))

    def test_no_sort(self):
        for sort in NO_WORDS + ("say", "do", "look", "values", "valued", "Value", ("value",)):
            self.check_part(("n", sort, "w"), ((), "part"))
            self.check_part(("n", sort, BODY), ((), "part"))

    def test_a_value_that_is_no_word(self):
        for word in NO_WORDS + (BODY, (("say", "w"),)):
            self.check_part(("n", "value", word), ((), "part"))

    def test_a_word_in_the_place_of_a_body(self):
        self.check_part(("n", "does", "w"), ((2,), "body"))
        self.check_part(("n", "looks", "w"), ((2,), "body"))

    def test_it_goes_ahead_of_its_body(self):
        self.check_part(("N", "does", None), ((), "part"))
        self.check_part(("n", "does", None, None), ((), "part"))
        self.check_part(("n", "do", None), ((), "part"))

    def test_the_body_goes_ahead_of_the_next_part(self):
        self.check(with_parts((("a", "does", ((),)), None)), ((2, 0, 0, 3, 0, 2, 0), "row"))
        self.check(with_parts((("b", "does", []), ("a", "value", "w"))), ((2, 0, 0, 3, 0, 2), "body"))
        self.check(with_parts((None, ("a", "does", []))), ((2, 0, 0, 3, 0), "part"))


class Ascending(ScriptCase):
    def test_a_word_not_above_that_of_the_part_ahead(self):
        for n, m in (("a", "a"), ("b", "a"), ("aa", "a"), ("b", "aa"), ("z", "abcdefgh")):
            for one in ("value", "does", "looks"):
                for other in ("value", "does", "looks"):
                    ahead = (n, one, "w" if one == "value" else ())
                    behind = (m, other, "w" if other == "value" else ())
                    self.check(with_parts((ahead, behind)), ((2, 0, 0, 3, 1), "part"))

    def test_the_third_and_the_fourth(self):
        def parts(*names):
            return with_parts(tuple((n, "value", "w") for n in names))
        self.check(parts("a", "b", "c", "d"), None)
        self.check(parts("a", "b", "a"), ((2, 0, 0, 3, 2), "part"))
        self.check(parts("a", "b", "b", "c"), ((2, 0, 0, 3, 2), "part"))
        self.check(parts("a", "b", "c", "b"), ((2, 0, 0, 3, 3), "part"))
        self.check(parts("d", "a", "b", "c"), ((2, 0, 0, 3, 1), "part"))

    def test_a_word_out_of_order_goes_ahead_of_its_body(self):
        self.check(with_parts((("b", "value", "w"), ("a", "does", None))), ((2, 0, 0, 3, 1), "part"))
        self.check(with_parts((("b", "value", "w"), ("b", "looks", (None,)))), ((2, 0, 0, 3, 1), "part"))

    def test_each_class_and_each_step_part_begins_anew(self):
        part = ("b", "value", "w")
        other = ("a", "value", "w")
        self.check(with_stages((
            ("class", "m", (), (part,)), ("class", "n", (), (other,)),
            ("part", "m", other), ("part", "m", other),
        )), None)
