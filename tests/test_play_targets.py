"""play: calling own, up, past and base, and how many bodies run in a deed (point 7)."""

from acting import (
    BORN, KIN, NEXT, BodyCase, PlayCase, call, does, fault, klass, looks, make, ring, said, script_of, value,
)


class Own(BodyCase):
    def test_a_does(self):
        self.check_body((("give", ("own", "act")),), said("acted"))
        self.check_body((("give", ("own", "act")),), said("mine"), (does("act", ("say", "mine")),))

    def test_an_own_field_is_ahead_of_a_does(self):
        for way in ("do", "give"):
            body = (("put", "act", "x"), (way, ("own", "act")), ("put", "behind", "b"))
            self.check_body(body, fault("word", "act"), act="x")

    def test_what_cannot_be_called(self):
        for way in ("do", "give"):
            self.check_fault((way, ("own", "own")), "word", "own")
            self.check_fault((way, ("own", "val")), "word", "val")
            self.check_fault((way, ("own", "view")), "word", "view")
            self.check_fault((way, ("own", "none")), "lacks", "none")

    def test_a_looks_is_run_ahead_of_the_fault(self):
        more = (looks("look", ("put", "own", "x")),)
        self.check_body((("do", ("own", "look")),), fault("word", "look"), more, own="x")

    def test_the_fault_of_a_looks_goes_ahead(self):
        more = (looks("look", ("put", "own", "x"), ("tell", "act")),)
        self.check_body((("do", ("own", "look")),), fault("does", "act"), more, own="x")

    def test_the_deed(self):
        script = script_of(
            ("man born make",) + tuple(f"man {n} call" for n in ("act", "val", "view", "none", "own", "look")),
            (KIN, klass("man", "kin", BORN, looks("look", ("put", "own", "x"), ("tell", "none")))),
        )
        self.check(
            script, (make(),) + tuple(call(n) for n in ("act", "val", "view", "none", "own", "look")),
            (
                ("thing", 0), said("acted"), fault("word", "val"), fault("word", "view"),
                fault("lacks", "none"), fault("word", "own"), fault("lacks", "none"),
            ),
            (("man", 0, (("own", "x"),)),),
        )


class Found(BodyCase):
    """up, past and base, when they find each sort of a part, or none."""

    TARGETS = (
        lambda n: ("up", n), lambda n: ("past", "man", n), lambda n: ("base", "kin", n),
        lambda n: ("base", "man", n),
    )

    def test_a_does(self):
        for target in self.TARGETS:
            self.check_body((("give", target("act")),), said("acted"))
            self.check_body((("do", target("act")), ("say", "end")), said("end"))

    def test_own_fields_do_not_count(self):
        for target in self.TARGETS:
            self.check_body((("put", "act", "x"), ("give", target("act"))), said("acted"), act="x")
            self.check_fault(("do", target("own")), "lacks", "own")

    def test_what_cannot_be_called(self):
        for target in self.TARGETS:
            for way in ("do", "give"):
                self.check_fault((way, target("val")), "word", "val")
                self.check_fault((way, target("view")), "word", "view")
                self.check_fault((way, target("none")), "lacks", "none")

    def test_a_looks_is_run_ahead_of_the_fault(self):
        for rows, kind, n in (
            ((("put", "own", "x"),), "word", "look"),
            ((("put", "own", "x"), ("tell", "none"), ("drop", "own")), "lacks", "none"),
            ((("put", "own", "x"), ("keep", "own")), "untold", "own"),
        ):
            for target in (("up", "look"), ("past", "man", "look"), ("base", "kin", "look"), ("base", "man", "look")):
                script = script_of(
                    ("man born make", "man run call"),
                    (klass("kin", "", looks("look", *rows)), klass("man", "kin", does("run", ("do", target)))),
                )
                self.check(
                    script, (make(), call("run")), (("thing", 0), fault(kind, n)),
                    (("man", 0, (("own", "x"),)),),
                )

    def test_what_the_class_itself_has(self):
        more = (does("act", ("say", "mine")),)
        self.check_body((("give", ("up", "act")),), said("acted"), more)
        self.check_body((("give", ("past", "man", "act")),), said("acted"), more)
        self.check_body((("give", ("base", "kin", "act")),), said("acted"), more)
        self.check_body((("give", ("base", "man", "act")),), said("mine"), more)
        more = (does("mine"),)
        self.check_fault(("do", ("up", "mine")), "lacks", "mine", more)
        self.check_fault(("do", ("past", "man", "mine")), "lacks", "mine", more)
        self.check_fault(("do", ("base", "kin", "mine")), "lacks", "mine", more)
        self.check_body((("give", ("base", "man", "mine")),), said(""), more)

    def test_past_the_last_class(self):
        self.check_fault(("do", ("past", "kin", "act")), "lacks", "act")

    def test_the_fault_name(self):
        for way in ("do", "give"):
            for target in (("past", "none", "act"), ("base", "none", "act")):
                self.check_fault((way, target), "name", "none")

    def test_the_first_part_found_counts_whatever_its_sort(self):
        for part, answer in (
            (value("act", "v"), fault("word", "act")), (looks("act"), fault("word", "act")),
            (does("act", ("say", "amid")), said("amid")),
        ):
            script = script_of(
                ("man born make", "man run call"),
                (
                    klass("kin", "", does("act", ("say", "acted"))), klass("amid", "kin", part),
                    klass("man", "amid", does("run", ("give", ("up", "act")))),
                ),
            )
            self.check(script, (make(), call("run")), (("thing", 0), answer))


class Orders(PlayCase):
    """up goes by the order of the thing's class, not by that of its own class."""

    def steps(self):
        def named(c, bases):
            return klass(c, bases, does("act", ("put", c, "x"), ("do", ("up", "act"))))
        return (
            (klass("top", "", does("act", ("say", "top"))), named("left", "top"), named("right", "top")),
            (named("man", "left right"), klass("lone", "left")),
        )

    def test_a_diamond(self):
        script = script_of(("man born make", "man act call", "left born make", "left act call"), *self.steps())
        self.check(
            script, (make("left"), NEXT, make(), call("act", 0), call("act", 1)),
            (("thing", 0), ("ran", 2), ("thing", 1), said(""), said("")),
            (("left", 0, (("left", "x"),)), ("man", 0, (("left", "x"), ("man", "x"), ("right", "x")))),
        )

    def test_past_in_a_diamond(self):
        body = does("run", ("do", ("past", "left", "act")))
        stages = self.steps()
        script = script_of(
            ("lone born make", "lone run call", "man born make", "man run call"),
            stages[0], stages[1] + (("part", "man", body), ("part", "lone", body)),
        )
        self.check(
            script, (NEXT, make(), make("lone"), call("run", 0), call("run", 1)),
            (("ran", 4), ("thing", 0), ("thing", 1), said(""), said("")),
            (("man", 0, (("right", "x"),)), ("lone", 0, ())),
        )

    def test_base_goes_on_by_the_things_order(self):
        # base finds left's act, which goes up from left in the order of man.
        body = does("run", ("do", ("base", "left", "act")))
        stages = self.steps()
        script = script_of(("man born make", "man run call"), stages[0], stages[1] + (("part", "man", body),))
        self.check(
            script, (NEXT, make(), call("run")), (("ran", 3), ("thing", 0), said("")),
            (("man", 0, (("left", "x"), ("right", "x"))),),
        )


class Strange(PlayCase):
    OFFERS = ("man born make", "man run call", "other born make", "other run call")

    def check_runs(self, answers, *steps):
        script = script_of(self.OFFERS, steps)
        self.check(script, (make(), call("run")), (("thing", 0), answers))

    def test_past_a_class_that_is_not_kin(self):
        other = klass("other", "", does("act", ("say", "other")))
        for n in ("act", "none"):
            run = does("run", ("do", ("past", "other", n)))
            self.check_runs(fault("strange", n), other, klass("man", "", run))
        self.check_runs(said("other"), other, klass("man", "", does("run", ("give", ("base", "other", "act")))))

    def test_up_from_a_body_found_by_base(self):
        other = klass("other", "", does("act", ("do", ("up", "run"))))
        self.check_runs(fault("strange", "run"), other, klass("man", "", does("run", ("do", ("base", "other", "act")))))

    def test_name_goes_ahead_of_strange(self):
        self.check_runs(fault("name", "none"), klass("man", "", does("run", ("do", ("past", "none", "none")))))

    def test_a_class_below(self):
        man = klass("man", "", does("act"), does("run", ("do", ("past", "low", "act"))))
        self.check_runs(fault("strange", "act"), man, klass("low", "man"))

    def test_the_elder_class_of_the_name(self):
        # The thing of the elder class is no longer kin to the one that is bound.
        run = does("run", ("give", ("past", "man", "act")))
        script = script_of(
            ("man act call", "man born make", "man run call"),
            (klass("kin", "", does("act", ("say", "acted"))), klass("man", "kin", run)),
            (klass("man", "kin", run),),
            (("lead", "man"), ("forget", "man")),
        )
        self.check(
            script, (make(), call("run"), NEXT, call("run"), NEXT, call("run")),
            (("thing", 0), said("acted"), ("ran", 1), fault("strange", "act"), ("ran", 2), fault("name", "man")),
        )


class Elder(PlayCase):
    """Bodies that live on where they are held, and what they meet."""

    def test_up_from_an_elder_body(self):
        run = does("run", ("give", ("up", "act")))
        script = script_of(
            ("man born make", "man run call"),
            (klass("kin", "", does("act", ("say", "acted"))), klass("man", "kin", run)),
            (klass("man", "kin"), ("lead", "man")),
            (klass("man", "man"), ("lead", "man"), klass("kin", "", does("act", ("say", "newer")))),
        )
        history = (make(), ("hold", 0, "run"), ring(), NEXT, ring(), call("run"), NEXT, ring())
        self.check(
            script, history,
            (
                ("thing", 0), ("held", 0), said("acted"), ("ran", 2), fault("strange", "act"),
                fault("lacks", "run"), ("ran", 3), fault("strange", "act"),
            ),
            (("man", 2, ()),),
        )

    def test_up_from_an_elder_body_that_is_still_kin(self):
        run = does("run", ("give", ("up", "act")))
        script = script_of(
            ("man born make", "man run call"),
            (klass("kin", "", does("act", ("say", "acted"))), klass("man", "kin", run)),
            (klass("man", "man", does("run", ("say", "new"))), ("lead", "man")),
        )
        self.check(
            script, (make(), ("hold", 0, "run"), NEXT, ring(), call("run")),
            (("thing", 0), ("held", 0), ("ran", 2), said("acted"), said("new")),
        )

    def test_up_by_the_order_as_it_is_now(self):
        run = does("run", ("give", ("up", "act")))
        script = script_of(
            ("man born make", "man run call"),
            (
                klass("a", "", does("act", ("say", "old"))), klass("b", "", does("act", ("say", "new"))),
                klass("man", "a", run),
            ),
            (("rebase", "man", ("b",)), ("cut", "man", "run")),
            (("cut", "b", "act"),),
        )
        self.check(
            script, (make(), ("hold", 0, "run"), ring(), NEXT, ring(), call("run"), NEXT, ring()),
            (
                ("thing", 0), ("held", 0), said("old"), ("ran", 2), said("new"), fault("lacks", "run"),
                ("ran", 1), fault("lacks", "act"),
            ),
        )

    def test_past_base_and_kin_by_the_names_as_they_are_now(self):
        run = does(
            "run", ("if", ("kin", "kin"), (("give", ("past", "kin", "act")),), (("give", ("base", "kin", "act")),)),
        )
        script = script_of(
            ("man born make", "man run call"),
            (
                klass("top", "", does("act", ("say", "top"))), klass("kin", "top", does("act", ("say", "elder"))),
                klass("man", "kin", run),
            ),
            (klass("kin", "", does("act", ("say", "newer"))),),
            (("forget", "kin"),),
        )
        both = (call("run"), ring())
        self.check(
            script, (make(), ("hold", 0, "run")) + both + (NEXT,) + both + (NEXT,) + both,
            (
                ("thing", 0), ("held", 0), said("top"), said("top"), ("ran", 1), said("newer"), said("newer"),
                ("ran", 1), fault("name", "kin"), fault("name", "kin"),
            ),
        )

    def test_a_body_held_is_not_that_which_replaced_it(self):
        script = script_of(
            ("man born make", "man run call"),
            (klass("man", "", does("run", ("say", "one"))),),
            (("part", "man", does("run", ("say", "two"))),),
            (("part", "man", value("run", "v")),),
        )
        history = (make(), ("hold", 0, "run"), NEXT, ring(0), ("hold", 0, "run"), ring(1), NEXT, ring(0), ring(1))
        self.check(
            script, history + (("hold", 0, "run"),),
            (
                ("thing", 0), ("held", 0), ("ran", 1), said("one"), ("held", 1), said("two"),
                ("ran", 1), said("one"), said("two"), fault("word", "run"),
            ),
        )

    def test_the_body_of_a_step_part_stands_in_the_class_bound_then(self):
        run = ("part", "man", does("run", ("give", ("past", "man", "act"))))
        script = script_of(
            ("man born make", "man run call"),
            (klass("kin", "", does("act", ("say", "acted"))), klass("man", "kin"), run, klass("man", "kin")),
            (("lead", "man"),),
        )
        # Only the man made last was ever seen, and it has no part of that.
        self.check(script, (make("man", 1), call("run")), (("thing", 0), fault("lacks", "run")))

    def test_a_held_body_is_run_whatever_own_fields_there_are(self):
        script = script_of(
            ("man born make", "man hide call", "man run call"),
            (klass("man", "", does("run", ("tell", "run")), does("hide", ("put", "run", "x"))),),
        )
        self.check(
            script, (make(), ("hold", 0, "run"), ring(), call("hide"), ring(), call("run")),
            (("thing", 0), ("held", 0), fault("does", "run"), said(""), said("x"), fault("word", "run")),
        )


class Counts(PlayCase):
    """At most 40 bodies of parts begin to run in one deed."""

    OFFERS = ("man born make", "man go call", "man see read", "man last call")

    # three runs 3 bodies, itself one of them; last puts w and x by turns.
    THREE = does("three", *[("do", ("own", "last"))] * 2)
    LAST = does("last", ("if", ("has", "own"), (
        ("if", ("is", "own", "w"), (("put", "own", "x"),), (("put", "own", "w"),)),
    ), (("put", "own", "w"),)))

    def script(self, *rows, more=()):
        nine = does("nine", *[("do", ("own", "three"))] * 3)
        return script_of(
            self.OFFERS, (klass("kin", "", self.LAST, self.THREE, nine, *more), klass("man", "kin", does("go", *rows))),
        )

    def nines(self, many):
        """Rows that run 10 bodies each: nine, three times three, and last twice in each."""
        return (("do", ("own", "nine")),) * many

    def test_the_fortieth_and_the_forty_first(self):
        # One for go and 30 for the nines; then 9 or 10 more.
        three, last = ("do", ("own", "three")), ("do", ("own", "last"))
        more = (does("rest", three, three, three),)
        self.check_last(self.script(*self.nines(3), more=more), (make(), call("go")), said(""))
        # rest begins as the 32nd and has 9 bodies: the last is the 41st.
        script = self.script(*self.nines(3), ("do", ("own", "rest")), more=more)
        self.check(script, (make(), call("go")), (("thing", 0), fault("long", "last")), (("man", 0, (("own", "w"),)),))
        # Without one of them it is the 40th.
        more = (does("rest", three, three, last, last),)
        script = self.script(*self.nines(3), ("do", ("own", "rest")), more=more)
        self.check(script, (make(), call("go")), (("thing", 0), said("")), (("man", 0, (("own", "x"),)),))

    def test_bodies_of_an_if_are_not_counted(self):
        deep = ("if", ("has", "none"), (), (("if", ("has", "none"), (), (("do", ("own", "nine")),)),))
        three, last = ("do", ("own", "three")), ("do", ("own", "last"))
        more = (does("rest", three, three, last, last),)
        script = self.script(deep, deep, deep, ("do", ("own", "rest")), more=more)
        self.check_last(script, (make(), call("go")), said(""))

    def test_one_that_calls_itself(self):
        for row in (("do", ("own", "go")), ("give", ("own", "go")), ("do", ("base", "man", "go"))):
            script = script_of(self.OFFERS, (klass("man", "", does("go", row)),))
            self.check(script, (make(), call("go")), (("thing", 0), fault("long", "go")))

    def test_the_word_of_the_part_that_would_begin(self):
        for go, see in (("go", "see"), ("see", "go")):
            more = (does("see", ("do", ("own", "go"))),)
            script = script_of(self.OFFERS, (klass("man", "", does("go", ("do", ("own", "see"))), *more),))
            self.check_last(script, (make(), call("go")), fault("long", "go"))
        # Also where it was called as another one's target.
        go = does("go", ("put", "n", "w"), ("do", ("own", "last")))
        script = script_of(self.OFFERS, (klass("man", "", go, does("last", ("do", ("base", "man", "go")))),))
        self.check_last(script, (make(), call("last")), fault("long", "last"))

    def test_those_of_looks_count(self):
        see, go = looks("see", ("tell", "see")), does("go", ("tell", "see"))
        script = script_of(self.OFFERS, (klass("man", "", see, go, does("last", ("do", ("own", "see")))),))
        for deed in (("read", 0, "see"), call("go"), call("last")):
            self.check_last(script, (make(), deed), fault("long", "see"))
        test = looks("see", ("if", ("is", "see", "w"), (), ()))
        script = script_of(self.OFFERS, (klass("man", "", test),))
        self.check_last(script, (make(), ("read", 0, "see")), fault("long", "see"))

    def test_each_deed_begins_anew(self):
        script = self.script(*self.nines(3))
        self.check(script, (make(),) + (call("go"),) * 5, (("thing", 0),) + (said(""),) * 5)

    def test_a_make_and_a_ring(self):
        script = script_of(self.OFFERS, (klass("man", "", does("born", ("do", ("own", "born")))),))
        self.check(script, (make(), make()), (fault("long", "born"), fault("long", "born")), ())
        go = does("go", ("put", "n", "w"), ("do", ("own", "on")))
        script = script_of(self.OFFERS, (klass("man", "", go, does("on", ("do", ("own", "on")))),))
        self.check(
            script, (make(), ("hold", 0, "go"), ring()), (("thing", 0), ("held", 0), fault("long", "on")),
            (("man", 0, (("n", "w"),)),),
        )
        # A ring's own body is the first one.
        three, last = ("do", ("own", "three")), ("do", ("own", "last"))
        for rest, answer in (((three, three, last, last), said("")), ((three,) * 3, fault("long", "last"))):
            script = self.script(*self.nines(3), ("do", ("own", "rest")), more=(does("rest", *rest),))
            self.check_last(script, (make(), ("hold", 0, "go"), ring()), answer)

    def test_what_was_done_ahead_stays(self):
        ahead = ("if", ("has", "a"), (("put", "b", "x"),), (("put", "a", "x"),))
        go = does("go", ahead, ("do", ("own", "go")), ("put", "c", "x"))
        script = script_of(self.OFFERS, (klass("man", "", go),))
        self.check(
            script, (make(), call("go")), (("thing", 0), fault("long", "go")),
            (("man", 0, (("a", "x"), ("b", "x"))),),
        )
