"""script_error: bodies, rows and ifs (points 4 and 5)."""

from samples import (
    LONG, NO_TUPLES, NO_WORDS, TARGETS, TESTS, ScriptCase, class_spots, part_spots, put,
    spots_up_to, with_part, with_parts, within_ifs,
)

# Each form of a row but those with a target and the if, and the places of the words.
PLAIN = (
    (("say", "a"), (1,)),
    (("tell", "n"), (1,)),
    (("put", "n", "a"), (1, 2)),
    (("keep", "n"), (1,)),
    (("drop", "n"), (1,)),
)
ROW = ("say", "a")
IF = ("if", ("has", "n"), (), ())


def wrong_rows():
    """Rows that have none of the forms."""
    found = list(NO_TUPLES) + [
        (), ("say",), ("if",), ("a",), ("own", "n"), ("has", "n"), ("class", "a", (), ()),
        (("say", "a"),), ("do", "n"), ("do", "own", "n"), ("give", "n"), ("do", TARGETS[0], TARGETS[0]),
    ]
    for row, words in PLAIN:
        found += [row[:-1], row + ("a",), row + ((),), list(row)]
        found += [put(row, 0, word) for word in NO_WORDS + ("says", "Say", "has", "own")]
        found += [put(row, at, word) for at in words for word in NO_WORDS]
    for name in ("do", "give"):
        found += [(name, target) for target in wrong_forms(TARGETS)]
        found += [(name, test) for test in TESTS]
        found += [(name, target, "a") for target in TARGETS]
        found += [[name, TARGETS[0]], (name,)]
    for bodies in (((), ()), ((ROW,), (ROW,)), (None, [])):
        found += [("if", test) + bodies for test in wrong_forms(TESTS)]
        found += [("if", target) + bodies for target in TARGETS]
        found += [("if", "n") + bodies, ("if", "has", "n") + bodies, ["if", TESTS[0], *bodies]]
    for test in TESTS:
        found += [("if", test), ("if", test, ()), ("if", test, (), (), ()), ("if", (), (), test)]
    return found


def wrong_forms(forms):
    """What looks like one of these targets or tests, but is none."""
    found = list(NO_TUPLES) + [(), ("n",), ("n", "n"), ("n", "n", "n"), (("own", "n"),)]
    for form in forms:
        found += [form[:-1], form + ("a",), form + ((),), list(form), (form,)]
        for at in range(len(form)):
            found += [put(form, at, word) for word in NO_WORDS]
        found += [put(form, 0, "Own"), put(form, 0, "say"), put(form, 0, "i")]
    return found


class BodyCase(ScriptCase):
    def check_bodies(self, spots, body, told):
        """The body at each of the spots; told holds the place within the body."""
        for wrap, place in spots:
            self.check(wrap(body), told and (place + told[0], told[1]))


class Bodies(BodyCase):
    spots = spots_up_to(class_spots() + part_spots(), 2)

    def test_up_to_four_rows(self):
        for many in range(5):
            self.check_bodies(self.spots, (ROW,) * many, None)
        for many in (5, 6):
            self.check_bodies(self.spots, (ROW,) * many, ((), "body"))

    def test_no_tuple(self):
        for body in NO_TUPLES + ([ROW], [["say", "a"]]):
            self.check_bodies(self.spots, body, ((), "body"))

    def test_it_goes_ahead_of_its_rows(self):
        self.check_bodies(self.spots, (None,) * 5, ((), "body"))
        self.check_bodies(self.spots, [None], ((), "body"))

    def test_a_row_in_the_place_of_a_body(self):
        self.check_bodies(self.spots, ROW, ((0,), "row"))


class Rows(BodyCase):
    spots = spots_up_to(class_spots() + part_spots(), 2)

    def test_each_plain_form(self):
        for row, words in PLAIN:
            for at in words:
                for word in ("a", "z", LONG, "say", "born"):
                    self.check_bodies(self.spots, (put(row, at, word),), None)

    def test_each_target(self):
        for name in ("do", "give"):
            for target in TARGETS:
                spots = spots_up_to(class_spots(), 2)
                self.check_bodies(spots, ((name, target),), None)
                for at in range(1, len(target)):
                    self.check_bodies(spots, ((name, put(target, at, LONG)),), None)

    def test_each_test(self):
        spots = spots_up_to(class_spots() + part_spots(), 1)
        for test in TESTS:
            self.check_bodies(spots, (("if", test, (ROW,), (ROW,)),), None)
            for at in range(1, len(test)):
                self.check_bodies(spots, (("if", put(test, at, LONG), (), ()),), None)

    def test_rows_of_no_form(self):
        spots = class_spots()[:1] + part_spots()[:1]
        for row in wrong_rows():
            self.check_bodies(spots, (row,), ((0,), "row"))

    def test_rows_of_no_form_at_each_place(self):
        few = (None, [], (), ("say",), ["say", "a"], ("say", "A"), ("do", "n"), ("do", ("own",)),
               ("give", ("up", "N")), ("if", (), (), ()), ("if", ("has", "n"), ()))
        for row in few:
            for at in range(4):
                rows = (ROW,) * at + (row,) + (ROW,) * (3 - at)
                self.check_bodies(self.spots, rows, ((at,), "row"))

    def test_the_first_wrong_row_is_told(self):
        self.check_bodies(self.spots, (ROW, None, ()), ((1,), "row"))
        self.check_bodies(self.spots, (None, ("if", ("has", "n"), None, None)), ((0,), "row"))


class Ifs(BodyCase):
    outer = class_spots() + part_spots()
    middle = spots_up_to(outer, 1)

    def test_any_value_stands_for_the_bodies_in_a_form(self):
        for body in NO_TUPLES:
            self.check_bodies(self.middle, (("if", ("has", "n"), body, ()),), ((0, 2), "body"))
            self.check_bodies(self.middle, (ROW, ("if", ("has", "n"), (), body)), ((1, 3), "body"))

    def test_the_row_goes_ahead_of_its_bodies(self):
        self.check_bodies(self.middle, (("if", ("has", "N"), None, None),), ((0,), "row"))
        self.check_bodies(self.middle, (("if", ("has", "n"), None, None, None),), ((0,), "row"))

    def test_the_first_body_goes_ahead_of_the_second(self):
        self.check_bodies(self.middle, (("if", ("has", "n"), None, []),), ((0, 2), "body"))
        self.check_bodies(self.middle, (("if", ("has", "n"), (ROW, None), None),), ((0, 2, 1), "row"))
        self.check_bodies(self.middle, (("if", ("has", "n"), (ROW,), (ROW, None)),), ((0, 3, 1), "row"))

    def test_the_bodies_go_ahead_of_the_next_row(self):
        self.check_bodies(self.middle, (("if", ("has", "n"), (), (None,)), None), ((0, 3, 0), "row"))
        self.check_bodies(self.middle, (("if", ("has", "n"), [], ()), None), ((0, 2), "body"))
        self.check_bodies(self.middle, (ROW, IF, None, IF), ((2,), "row"))

    def test_two_within_one_another(self):
        two = ("if", ("has", "n"), (IF, IF, IF, IF), (ROW, IF))
        self.check_bodies(self.outer, (two, two, two, two), None)

    def test_three_within_one_another(self):
        for at in (2, 3):
            for other in (2, 3):
                for row in range(3):
                    two = put(IF, at, (ROW,) * row + (put(IF, other, (ROW, IF)),))
                    self.check_bodies(self.outer, (ROW, two), ((1, at, row, other, 1), "deep"))

    def test_deep_at_each_spot_within_two(self):
        deep = within_ifs(within_ifs(self.outer))
        self.check_bodies(deep, (IF,), ((0,), "deep"))
        self.check_bodies(deep, (ROW, ROW, ROW, IF), ((3,), "deep"))
        # Whatever lies in an if that lies too deep is told no more.
        self.check_bodies(deep, (("if", ("has", "n"), None, [None]),), ((0,), "deep"))
        self.check_bodies(deep, (("if", ("has", "n"), (IF,), ()),), ((0,), "deep"))
        # But it has to have the form of an if.
        self.check_bodies(deep, (("if", ("has", "N"), (), ()),), ((0,), "row"))
        self.check_bodies(deep, (("if", ("has", "n"), ()),), ((0,), "row"))
        self.check_bodies(deep, (None, IF), ((0,), "row"))
        self.check_bodies(deep, (IF, None), ((0,), "deep"))

    def test_each_part_counts_its_ifs_anew(self):
        two = ("if", ("has", "n"), (IF,), (IF,))
        self.check(with_parts((("a", "does", (two,)), ("b", "looks", (two, IF)))), None)

    def test_far_more_ifs_than_may_be(self):
        row = IF
        for _ in range(9):
            row = put(IF, 2, (row,))
        self.check_bodies(self.outer, (row,), ((0, 2, 0, 2, 0), "deep"))


class Ups(BodyCase):
    in_class = spots_up_to(class_spots(), 2)
    in_part = spots_up_to(part_spots(), 2)

    def test_up_in_a_class(self):
        for name in ("do", "give"):
            self.check_bodies(self.in_class, (ROW, (name, ("up", "n"))), None)

    def test_up_in_the_step_part_at_any_depth(self):
        for name in ("do", "give"):
            for n in ("n", "up", LONG):
                self.check_bodies(self.in_part, ((name, ("up", n)),), ((0,), "up"))
                self.check_bodies(self.in_part, (ROW, ROW, (name, ("up", n)), ROW), ((2,), "up"))

    def test_other_targets_in_the_step_part(self):
        for name in ("do", "give"):
            for target in (("own", "up"), ("past", "up", "up"), ("base", "up", "up")):
                self.check_bodies(self.in_part, ((name, target),), None)

    def test_the_word_up_elsewhere_in_the_step_part(self):
        for row in (("say", "up"), ("tell", "up"), ("put", "up", "up"), ("keep", "up"), ("drop", "up")):
            self.check_bodies(self.in_part, (row,), None)
        self.check(with_part(("up", "value", "up")), None)
        self.check(with_part(("up", "does", (("if", ("is", "up", "up"), (), ()),))), None)

    def test_the_form_goes_ahead(self):
        self.check_bodies(self.in_part, (("do", ("up", "N")),), ((0,), "row"))
        self.check_bodies(self.in_part, (("do", ("up", "n", "n")),), ((0,), "row"))
        self.check_bodies(self.in_part, (("give", ["up", "n"]),), ((0,), "row"))

    def test_the_first_of_two_is_told(self):
        up = ("do", ("up", "n"))
        self.check_bodies(self.in_part, (up, up), ((0,), "up"))
        self.check_bodies(self.in_part, (up, None), ((0,), "up"))
        self.check_bodies(self.in_part, (None, up), ((0,), "row"))
        spots = spots_up_to(part_spots(), 1)
        self.check_bodies(spots, (("if", ("has", "n"), (up,), (None,)), up), ((0, 2, 0), "up"))
        self.check_bodies(spots, (("if", ("has", "n"), (), (up,)), None), ((0, 3, 0), "up"))
        self.check_bodies(part_spots(), (("if", ("has", "n"), (("if", ("has", "n"), (IF, up), ()),), ()),),
                          ((0, 2, 0, 2, 0), "deep"))
        self.check_bodies(part_spots(), (("if", ("has", "n"), (("if", ("has", "n"), (up, IF), ()),), ()),),
                          ((0, 2, 0, 2, 0), "up"))
