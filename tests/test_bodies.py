"""bodies (point 5)."""

import unittest

from remadeclasses.scripts import bodies
from samples import RICH, with_part, with_parts, with_stages

BODY = (("say", "a"),)


class Bodies(unittest.TestCase):
    def check(self, script, told):
        """bodies(script) tells this, each time, and leaves the script as it is."""
        ahead = repr(script)
        self.assertEqual(repr(bodies(script)), repr(told))
        self.assertEqual(repr(bodies(script)), repr(told))
        self.assertEqual(repr(script), ahead)

    def test_no_body(self):
        self.check(with_stages(()), ())
        self.check(with_stages((), (), ()), ())
        self.check(with_parts(()), ())
        self.check(with_parts((("m", "value", "w"), ("n", "value", "w"))), ())
        self.check(with_part(("n", "value", "w")), ())
        self.check(with_stages((
            ("cut", "a", "n"), ("forget", "a"), ("lead", "a"), ("rebase", "a", ("b",)),
        ), (("fill", "a", "n", "does"), ("clear", "a", "looks"))), ())

    def test_parts_of_all_sorts(self):
        self.check(with_parts((("a", "value", "w"), ("b", "does", BODY), ("c", "looks", BODY))), (
            (0, 0, 1), (0, 0, 2),
        ))
        self.check(with_parts((("a", "does", BODY), ("b", "value", "w"), ("c", "looks", BODY), ("d", "does", BODY))), (
            (0, 0, 0), (0, 0, 2), (0, 0, 3),
        ))

    def test_an_empty_body_is_one(self):
        self.check(with_parts((("a", "does", ()), ("b", "looks", ()))), ((0, 0, 0), (0, 0, 1)))
        self.check(with_part(("a", "does", ())), ((0, 0, 0),))

    def test_the_step_part(self):
        self.check(with_part(("n", "does", BODY)), ((0, 0, 0),))
        self.check(with_part(("n", "looks", BODY)), ((0, 0, 0),))
        self.check(with_stages((), (("lead", "a"), ("part", "a", ("n", "looks", ())))), ((1, 1, 0),))

    def test_the_bodies_of_an_if_are_none_of_parts(self):
        nested = (("if", ("has", "n"), BODY, (("if", ("has", "n"), BODY, BODY),)), ("if", ("has", "n"), (), ()))
        self.check(with_parts((("a", "does", nested), ("b", "looks", nested))), ((0, 0, 0), (0, 0, 1)))

    def test_equal_bodies_have_each_their_place(self):
        step = ("class", "a", (), (("n", "does", BODY),))
        self.check(with_stages((step, step), (step,), (("part", "a", ("n", "does", BODY)), step)), (
            (0, 0, 0), (0, 1, 0), (1, 0, 0), (2, 0, 0), (2, 1, 0),
        ))

    def test_words_that_look_like_steps_and_sorts(self):
        self.check(with_parts((("does", "value", "looks"), ("looks", "does", ()), ("value", "value", "does"))), (
            (0, 0, 1),
        ))
        self.check(with_stages((("fill", "class", "part", "does"), ("part", "class", ("class", "looks", ())))), (
            (0, 1, 0),
        ))

    def test_as_much_as_may_be(self):
        self.check(RICH, ((0, 0, 0), (0, 0, 2), (0, 0, 3), (1, 0, 0), (1, 1, 0)))
        parts = tuple((n, "does", BODY) for n in ("a", "b", "c", "d"))
        stage = (("class", "a", (), parts),) * 4
        self.check(with_stages(stage, stage, stage), tuple(
            (k, s, p) for k in range(3) for s in range(4) for p in range(4)
        ))
