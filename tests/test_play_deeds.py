"""play and standings_after: what outsiders do, and the moves of a stage (points 6 and 8)."""

from acting import (
    NEXT, PlayCase, S, call, does, fault, klass, looks, make, ring, said, script_of, value,
)
class Example(PlayCase):
    def test_the_document(self):
        self.check(
            S, (make(), ("hold", 0, "greet"), NEXT, ("call", 0, "greet", "go", None), ("ring", 0, "go", None)),
            (("thing", 0), ("held", 0), ("ran", 2), fault("lacks", "title"), said("adam")),
            (("man", 1, (("name", "adam"),)),),
        )

    def test_nothing_is_done(self):
        self.check(S, (), (), ())
        self.check(S, (NEXT,), (("ran", 2),), ())

    def test_a_history_may_be_long(self):
        deeds = (make(), call("greet"), ("hold", 0, "greet"), ring()) * 300
        answers = []
        for at in range(300):
            answers += [("thing", at), said("adam"), ("held", at), said("adam")]
        self.check(S, deeds, answers, (("man", 0, (("name", "adam"),)),) * 300)


class Make(PlayCase):
    OFFERS = ("man born make", "man born call", "man born read")

    def check_make(self, answer, standing, *steps):
        """A make of man has this answer; standing is None if there is no thing."""
        script = script_of(self.OFFERS, steps)
        left = () if standing is None else (standing,)
        self.check(script, (make(),), (answer,), left)

    def test_nothing_under_born(self):
        self.check_make(("thing", 0), ("man", 0, ()), klass("man", ""))
        self.check_make(("thing", 0), ("man", 0, ()), klass("man", "", does("barn", ("put", "n", "w"))))

    def test_born_as_a_does(self):
        self.check_make(("thing", 0), ("man", 0, ()), klass("man", "", does("born")))
        self.check_make(("thing", 0), ("man", 0, (("n", "w"),)), klass("man", "", does("born", ("put", "n", "w"))))
        born = does("born", ("put", "n", "w"), ("say", "x"))
        self.check_make(("thing", 0), ("man", 0, (("n", "w"),)), klass("man", "", born))
        self.check_make(("thing", 0), ("man", 0, (("n", "go"),)), klass("man", "", does("born", ("keep", "n"))))

    def test_born_of_a_base(self):
        kin = klass("kin", "", does("born", ("put", "n", "w")))
        self.check_make(("thing", 0), ("man", 0, (("n", "w"),)), kin, klass("man", "kin"))
        self.check_make(("thing", 0), ("man", 0, (("m", "w"), ("n", "w"))), kin, klass(
            "man", "kin", does("born", ("put", "m", "w"), ("do", ("up", "born"))),
        ))

    def test_born_that_is_a_fault(self):
        self.check_make(fault("lacks", "n"), None, klass("man", "", does("born", ("put", "m", "w"), ("tell", "n"))))
        self.check_make(fault("name", "none"), None, klass("man", "", does("born", ("do", ("base", "none", "n")))))

    def test_born_as_a_looks_or_a_value(self):
        self.check_make(fault("word", "born"), None, klass("man", "", looks("born", ("put", "n", "w"))))
        self.check_make(fault("lacks", "n"), None, klass("man", "", looks("born", ("tell", "n"))))
        self.check_make(fault("untold", "n"), None, klass("man", "", looks("born", ("keep", "n"))))
        self.check_make(fault("word", "born"), None, klass("man", "", value("born", "w")))
        kin = klass("kin", "", does("born"))
        self.check_make(fault("word", "born"), None, kin, klass("man", "kin", value("born", "w")))

    def test_born_as_an_own_field(self):
        script = script_of(
            self.OFFERS, (klass("man", "", does("born", ("put", "born", "w"))),),
            (("cut", "man", "born"), ("fill", "man", "born", "x")), (("clear", "man", "born"),),
        )
        self.check(
            script, (
                make(), call("born"), ("read", 0, "born"), ("hold", 0, "born"), NEXT, make(), call("born", 1),
                ("hold", 1, "born"), NEXT, ("hold", 0, "born"), ("hold", 1, "born"),
            ),
            (
                ("thing", 0), fault("word", "born"), said("w"), fault("word", "born"), ("ran", 2), ("thing", 1),
                fault("lacks", "born"), fault("lacks", "born"), ("ran", 1),
                fault("lacks", "born"), fault("lacks", "born"),
            ),
            (("man", 0, ()), ("man", 0, ())),
        )

    def test_born_can_be_called_again_and_held(self):
        script = script_of(self.OFFERS, (klass("man", "", does("born", ("keep", "n"), ("say", "x"))),))
        self.check(
            script, (make(), call("born", w="stop"), ("hold", 0, "born"), ring(), ("read", 0, "born")),
            (("thing", 0), said("x"), ("held", 0), said("x"), fault("does", "born")),
            (("man", 0, (("n", "go"),)),),
        )

    def test_a_make_that_is_a_fault_has_no_number(self):
        born = does("born", ("if", ("told", "stop"), (("tell", "n"),), (("put", "n", "w"),)))
        script = script_of(self.OFFERS, (klass("man", "", born),))
        self.check(
            script, (make(), make(w="stop"), make(), ("read", 1, "born"), make(w="stop")),
            (("thing", 0), fault("lacks", "n"), ("thing", 1), fault("does", "born"), fault("lacks", "n")),
            (("man", 0, (("n", "w"),)),) * 2,
        )
        self.check_bad(script, (make(), make(w="stop"), ("read", 1, "born")), 2)


class Seen(PlayCase):
    OFFERS = ("man born make", "dog born make")

    def test_each_class_that_was_bound_behind_a_stage(self):
        script = script_of(
            self.OFFERS, (klass("man", ""), klass("dog", "")), (klass("man", ""), ("forget", "dog")),
            (klass("man", ""), klass("man", ""), klass("dog", "")),
        )
        every = [("man", 0), ("dog", 0), ("man", 1), ("man", 2), ("man", 3), ("dog", 1)]
        seen = (2, 3, 3 + 2)
        told = [
            every[:2], every[:3], every[:3] + [("man", 3), ("dog", 1)],
        ]
        for k in range(3):
            self.assertEqual(len(told[k]), seen[k])
            for c, number in every:
                history = (NEXT,) * k + (make(c, number),)
                if (c, number) in told[k]:
                    self.check_last(script, history, ("thing", 0))
                else:
                    self.check_bad(script, history, k)

    def test_bound_within_a_stage_only(self):
        script = script_of(self.OFFERS, (klass("man", ""), ("forget", "man"), klass("dog", ""), klass("dog", "")), ())
        for ahead in ((), (NEXT,)):
            self.check_bad(script, ahead + (make(),), len(ahead))
            self.check_bad(script, ahead + (make("dog", 0),), len(ahead))
            self.check_last(script, ahead + (make("dog", 1),), ("thing", 0))

    def test_not_yet(self):
        script = script_of(self.OFFERS, (), (klass("man", ""),))
        self.check_bad(script, (make(),), 0)
        self.check_last(script, (NEXT, make()), ("thing", 0))

    def test_behind_a_step_that_failed(self):
        script = script_of(self.OFFERS, (klass("man", ""), ("cut", "man", "n"), klass("dog", "")))
        self.check_last(script, (make(),), ("thing", 0))
        self.check_bad(script, (make("dog"),), 0)

    def test_an_elder_class_is_made_as_it_is_now(self):
        script = script_of(
            self.OFFERS, (klass("man", "", does("born", ("put", "n", "w"))),),
            (("part", "man", does("born", ("put", "n", "x"))), klass("man", "")), (("forget", "man"),),
        )
        for many, word in ((0, "w"), (1, "x"), (2, "x")):
            ahead = (NEXT,) * many
            self.check(
                script, ahead + (make(),), tuple(("ran", 3 - at - 1) for at in range(many)) + (("thing", 0),),
                (("man", 0, (("n", word),)),),
            )

    def test_only_what_is_offered(self):
        script = script_of(("dog born make", "man born call"), (klass("man", ""), klass("dog", "")))
        self.check_bad(script, (make(),), 0)
        self.check_last(script, (make("dog"),), ("thing", 0))


class Hold(PlayCase):
    OFFERS = ("man born make",) + tuple(f"man {n} call" for n in ("act", "val", "view", "none", "own", "set"))
    STEP = klass("man", "kin", does("act", ("tell", "own")), does("set", ("put", "act", "x"), ("put", "own", "y")))
    KIN = klass("kin", "", does("born", ("put", "own", "w")), value("val", "v"), looks("view", ("put", "own", "z")))

    def test_a_does(self):
        script = script_of(self.OFFERS, (self.KIN, self.STEP))
        self.check(
            script, (make(), ("hold", 0, "act"), call("set"), ring(), ring()),
            (("thing", 0), ("held", 0), said(""), said("y"), said("y")),
        )

    def test_what_holds_nothing(self):
        script = script_of(self.OFFERS, (self.KIN, self.STEP))
        self.check(
            script, (make(),) + tuple(("hold", 0, n) for n in ("val", "view", "none", "own")) + (
                call("set"), ("hold", 0, "act"),
            ),
            (
                ("thing", 0), fault("word", "val"), fault("word", "view"), fault("lacks", "none"),
                fault("word", "own"), said(""), fault("word", "act"),
            ),
            # No looks was run for it.
            (("man", 0, (("act", "x"), ("own", "y"))),),
        )

    def test_it_has_no_number(self):
        script = script_of(self.OFFERS, (self.KIN, self.STEP))
        history = (make(), ("hold", 0, "val"), ("hold", 0, "set"), ("hold", 0, "none"), ("hold", 0, "act"))
        self.check(
            script, history + (ring(0), ring(1)),
            (
                ("thing", 0), fault("word", "val"), ("held", 0), fault("lacks", "none"), ("held", 1),
                said(""), said("y"),
            ),
        )
        self.check_bad(script, history + (ring(2),), 5)
        self.check_bad(script, history[:2] + (ring(0),), 2)

    def test_the_same_body_again(self):
        script = script_of(self.OFFERS, (self.KIN, self.STEP))
        self.check(
            script, (make(), make(), ("hold", 1, "set"), ("hold", 0, "set"), ("hold", 1, "set"), ring(2), ring(1)),
            (("thing", 0), ("thing", 1), ("held", 0), ("held", 1), ("held", 2), said(""), said("")),
        )

    def test_it_is_run_for_its_thing(self):
        script = script_of(self.OFFERS, (self.KIN, self.STEP))
        self.check(
            script, (make(), make(), ("hold", 1, "set"), ring(0)),
            (("thing", 0), ("thing", 1), ("held", 0), said("")),
            (("man", 0, (("own", "w"),)), ("man", 0, (("act", "x"), ("own", "y")))),
        )

    def test_of_a_thing_that_was_led_since(self):
        script = script_of(
            ("man act call", "man born make"),
            (klass("man", "", does("act", ("give", ("own", "name"))), does("name", ("say", "elder"))),),
            (klass("man", "", does("name", ("say", "newer"))), ("lead", "man")),
            (klass("man", "", value("name", "newest")), ("lead", "man")),
        )
        self.check(
            script, (make(), ("hold", 0, "act"), ring(), NEXT, ring(), ("hold", 0, "act"), NEXT, ring()),
            (
                ("thing", 0), ("held", 0), said("elder"), ("ran", 2), said("newer"), fault("lacks", "act"),
                ("ran", 2), fault("word", "name"),
            ),
            (("man", 2, ()),),
        )

    def test_a_ring_is_offered_whatever_the_thing_is_now(self):
        script = script_of(
            ("man act call", "man born make"),
            (klass("man", "", does("act", ("say", "w"))),), (("cut", "man", "act"), ("forget", "man")),
        )
        self.check(
            script, (make(), ("hold", 0, "act"), NEXT, ring(w="stop", guest=0)),
            (("thing", 0), ("held", 0), ("ran", 2), said("w")),
        )


class Offered(PlayCase):
    """Offers go by the name of the class that the thing has now."""

    def test_each_way_is_its_own(self):
        script = script_of(
            ("man act call", "man born make", "man see read"), (klass("man", "", does("act"), looks("see")),),
        )
        ahead = (make(), ("hold", 0, "act"))
        for deed in (call("act"), ("hold", 0, "act"), ("read", 0, "see"), ring()):
            self.check_last(script, ahead + (deed,), ("held", 1) if deed[0] == "hold" else said(""))
        for deed in (call("see"), ("hold", 0, "see"), ("read", 0, "act"), call("born"), ("read", 0, "born")):
            self.check_bad(script, ahead + (deed,), 2)

    def test_by_its_name_not_by_its_bases(self):
        script = script_of(
            ("dog born make", "man act call", "man born make"), (klass("man", "", does("act")), klass("dog", "man")),
        )
        self.check_bad(script, (make("dog"), call("act")), 1)
        self.check_bad(script, (make("dog"), ("hold", 0, "act")), 1)
        self.check_last(script, (make("man"), call("act")), said(""))

    def test_whatever_the_name_is_bound_to(self):
        script = script_of(
            ("man act call", "man born make"), (klass("man", "", does("act", ("say", "w"))),),
            (klass("man", ""),), (("forget", "man"),),
        )
        self.check(
            script, (make(), NEXT, call("act"), make("man", 1), call("act", 1), NEXT, call("act"), call("act", 1)),
            (
                ("thing", 0), ("ran", 1), said("w"), ("thing", 1), fault("lacks", "act"),
                ("ran", 1), said("w"), fault("lacks", "act"),
            ),
        )

    def test_what_the_class_has_not(self):
        script = script_of(("man act call", "man act read", "man born make"), (klass("man", ""),))
        for deed in (call("act"), ("hold", 0, "act"), ("read", 0, "act")):
            self.check_last(script, (make(), deed), fault("lacks", "act"))


class Moves(PlayCase):
    """lead, fill and clear, each at its time."""

    MAKES = ("dog born make", "man born make", "pup born make")

    def check_moved(self, steps, standings, first=None, makes=None):
        """Things of man, dog and pup, made behind the first stage, are moved so."""
        first = first or (klass("man", "", does("born", ("put", "n", "w"))), klass("dog", ""), klass("pup", "dog"))
        makes = makes or (make("man"), make("dog"), make("pup"))
        script = script_of(self.MAKES, first, steps)
        many = len(makes)
        self.check(
            script, makes + (NEXT,), tuple(("thing", i) for i in range(many)) + (("ran", len(steps)),), standings,
        )

    def test_lead(self):
        man, dog, pup = ("man", 0, (("n", "w"),)), ("dog", 0, ()), ("pup", 0, ())
        self.check_moved((), (man, dog, pup))
        self.check_moved((klass("man", ""),), (man, dog, pup))
        self.check_moved((klass("man", ""), ("lead", "man")), (("man", 1, (("n", "w"),)), dog, pup))
        self.check_moved((klass("dog", ""), ("lead", "dog")), (man, ("dog", 1, ()), pup))
        self.check_moved((klass("dog", ""), klass("dog", ""), ("lead", "dog")), (man, ("dog", 2, ()), pup))
        self.check_moved((("lead", "dog"), klass("dog", "")), (man, dog, pup))
        self.check_moved((("lead", "man"), ("lead", "dog")), (man, dog, pup))

    def test_lead_takes_all_elder_ones(self):
        script = script_of(
            self.MAKES, (klass("man", ""), klass("dog", "")), (klass("man", ""),), (klass("man", ""), ("lead", "man")),
        )
        self.check(
            script, (make(), NEXT, make(), make("man", 1), make("dog"), NEXT, make("man", 1), make("man", 2)),
            (
                ("thing", 0), ("ran", 1), ("thing", 1), ("thing", 2), ("thing", 3), ("ran", 2),
                ("thing", 4), ("thing", 5),
            ),
            (
                ("man", 2, ()), ("man", 2, ()), ("man", 2, ()), ("dog", 0, ()), ("man", 1, ()), ("man", 2, ()),
            ),
        )

    def test_lead_behind_a_forget(self):
        script = script_of(
            self.MAKES, (klass("man", ""),), (("forget", "man"), ("lead", "man")), (klass("man", ""), ("lead", "man")),
        )
        self.check(script, (make(), NEXT), (("thing", 0), ("ran", 1)), (("man", 0, ()),))
        self.check(script, (make(), NEXT, NEXT), (("thing", 0), ("ran", 1), ("ran", 2)), (("man", 1, ()),))

    def test_fill(self):
        man, both = ("man", 0, (("n", "w"),)), ("man", 0, (("m", "x"), ("n", "w")))
        self.check_moved((("fill", "man", "n", "x"),), (man, ("dog", 0, ()), ("pup", 0, ())))
        self.check_moved((("fill", "man", "m", "x"),), (both, ("dog", 0, ()), ("pup", 0, ())))
        self.check_moved((("fill", "dog", "n", "x"),), (man, ("dog", 0, (("n", "x"),)), ("pup", 0, (("n", "x"),))))
        self.check_moved((("fill", "pup", "n", "x"),), (man, ("dog", 0, ()), ("pup", 0, (("n", "x"),))))
        self.check_moved((("fill", "pup", "n", "x"), ("fill", "dog", "n", "y")), (
            man, ("dog", 0, (("n", "y"),)), ("pup", 0, (("n", "x"),)),
        ))

    def test_clear(self):
        man, dog, pup = ("man", 0, (("n", "w"),)), ("dog", 0, ()), ("pup", 0, ())
        self.check_moved((("clear", "man", "n"),), (("man", 0, ()), dog, pup))
        self.check_moved((("clear", "man", "m"), ("clear", "dog", "n")), (man, dog, pup))
        self.check_moved((("fill", "dog", "n", "x"), ("clear", "pup", "n")), (man, ("dog", 0, (("n", "x"),)), pup))
        self.check_moved((("fill", "pup", "n", "x"), ("clear", "dog", "n")), (man, dog, pup))
        self.check_moved((("clear", "man", "n"), ("fill", "man", "n", "x")), (("man", 0, (("n", "x"),)), dog, pup))
        self.check_moved((("fill", "man", "n", "x"), ("clear", "man", "n")), (("man", 0, ()), dog, pup))

    def test_a_looks_is_no_hindrance(self):
        self.check_moved(
            (("part", "dog", looks("n")), ("fill", "dog", "n", "x"), ("clear", "pup", "n")),
            (("man", 0, (("n", "w"),)), ("dog", 0, (("n", "x"),)), ("pup", 0, ())),
        )

    def test_kin_to_the_class_that_is_bound_then(self):
        man, dog, pup = ("man", 0, (("n", "w"),)), ("dog", 0, ()), ("pup", 0, ())
        self.check_moved((klass("dog", ""), ("fill", "dog", "n", "x")), (man, dog, pup))
        self.check_moved((("fill", "dog", "n", "x"), klass("dog", "")), (
            man, ("dog", 0, (("n", "x"),)), ("pup", 0, (("n", "x"),)),
        ))
        self.check_moved((klass("dog", ""), ("fill", "dog", "n", "x"), ("lead", "dog")), (man, ("dog", 1, ()), pup))
        self.check_moved((klass("dog", ""), ("lead", "dog"), ("fill", "dog", "n", "x")), (
            man, ("dog", 1, (("n", "x"),)), pup,
        ))
        self.check_moved((klass("dog", "dog"), ("lead", "dog"), ("fill", "dog", "n", "x")), (
            man, ("dog", 1, (("n", "x"),)), pup,
        ))

    def test_kin_as_it_is_then(self):
        man, dog, pup = ("man", 0, (("n", "w"),)), ("dog", 0, ()), ("pup", 0, ())
        fill, rebase = ("fill", "dog", "n", "x"), ("rebase", "pup", ("man",))
        filled = ("dog", 0, (("n", "x"),))
        self.check_moved((fill, rebase), (man, filled, ("pup", 0, (("n", "x"),))))
        self.check_moved((rebase, fill), (man, filled, pup))
        self.check_moved((rebase, ("fill", "man", "m", "x")), (
            ("man", 0, (("m", "x"), ("n", "w"))), dog, ("pup", 0, (("m", "x"),)),
        ))
        self.check_moved((fill, rebase, ("clear", "man", "n")), (("man", 0, ()), filled, pup))

    def test_behind_a_step_that_fails_nothing_is_moved(self):
        script = script_of(
            self.MAKES, (klass("man", ""),),
            (("fill", "man", "a", "x"), ("fill", "none", "b", "x"), ("fill", "man", "c", "x")),
            (("fill", "man", "d", "x"),),
        )
        self.check(
            script, (make(), NEXT, NEXT), (("thing", 0), ("ran", 1), ("ran", 1)),
            (("man", 0, (("a", "x"), ("d", "x"))),),
        )

    def test_things_made_later_are_not_moved(self):
        script = script_of(self.MAKES, (klass("man", ""), ("fill", "man", "a", "x")), (("fill", "man", "b", "x"),))
        self.check(script, (make(), NEXT, make()), (("thing", 0), ("ran", 1), ("thing", 1)), (
            ("man", 0, (("b", "x"),)), ("man", 0, ()),
        ))

    def test_numbers_stay(self):
        script = script_of(self.MAKES, (klass("man", ""), klass("dog", "")), (klass("dog", ""), ("lead", "dog")))
        self.check(
            script, (make("dog"), make(), make("dog"), NEXT),
            (("thing", 0), ("thing", 1), ("thing", 2), ("ran", 2)),
            (("dog", 1, ()), ("man", 0, ()), ("dog", 1, ())),
        )
