"""play: rows, reading, tests and their faults (points 4 and 7)."""

from acting import (
    BORN, KIN, NEXT, BodyCase, PlayCase, call, does, fault, klass, looks, make, said, script_of, value,
)


class Saying(BodyCase):
    def test_say(self):
        self.check_body((("say", "hello"),), said("hello"))
        self.check_body((("say", "hello"), ("put", "own", "x")), said("hello"))

    def test_a_body_that_comes_to_its_end(self):
        self.check_body((), said(""))
        self.check_body((("put", "own", "x"),), said(""), own="x")
        self.check_body((("do", ("own", "act")),), said(""))

    def test_tell(self):
        self.check_body((("tell", "own"), ("put", "own", "x")), said("w"))
        self.check_body((("tell", "val"),), said("valued"))
        self.check_body((("tell", "view"), ("drop", "own")), said("seen"))

    def test_what_a_looks_says_is_told(self):
        self.check_body((("tell", "look"),), said(""), more=(looks("look"),))
        self.check_body((("tell", "look"),), said("w"), more=(looks("look", ("tell", "own")),))

    def test_give_ends_and_do_goes_on(self):
        self.check_body((("give", ("own", "act")), ("put", "own", "x")), said("acted"))
        self.check_body((("do", ("own", "act")), ("put", "own", "x")), said(""), own="x")
        self.check_body((("do", ("own", "act")), ("say", "hello")), said("hello"))

    def test_what_the_called_body_did_stays(self):
        more = (does("more", ("put", "own", "x"), ("say", "more")),)
        self.check_body((("do", ("own", "more")), ("tell", "own")), said("x"), more, own="x")


class Fields(BodyCase):
    def test_put(self):
        self.check_body((("put", "new", "x"), ("put", "own", "y")), said(""), own="y", new="x")
        self.check_body((("put", "new", "x"), ("put", "new", "z")), said(""), new="z")
        # Values and bodies that the class has are no hindrance.
        self.check_body((("put", "val", "x"), ("put", "act", "y")), said(""), val="x", act="y")

    def test_keep(self):
        self.check_body((("keep", "new"), ("keep", "own")), said(""), own="go", new="go")
        self.check_body((("keep", "val"), ("keep", "act")), said(""), val="go", act="go")

    def test_drop(self):
        self.check_body((("drop", "own"),), said(""), own=None)
        self.check_body((("put", "act", "x"), ("drop", "act"), ("give", ("own", "act"))), said("acted"))

    def test_drop_of_what_is_no_own_field(self):
        for n in ("none", "val", "act"):
            self.check_fault(("drop", n), "lacks", n)
        self.check_body((("drop", "own"), ("drop", "own")), fault("lacks", "own"), own=None)

    def test_nothing_is_put_where_a_looks_is_found(self):
        for row in (("put", "view", "x"), ("keep", "view"), ("drop", "view")):
            self.check_fault(row, "looks", "view")

    def test_a_looks_is_ahead_of_no_told_word_and_of_no_own_field(self):
        more = (looks("look", ("keep", "view")),)
        self.check_fault(("tell", "look"), "looks", "view", more)

    def test_a_looks_that_something_hides_is_no_hindrance(self):
        self.check_body((("put", "view", "x"), ("tell", "view")), said("x"), (value("view", "v"),), view="x")

    def test_a_looks_over_an_own_field(self):
        script = script_of(
            ("man born make", "man own read", "man put call", "man drop call"),
            (klass(
                "man", "", does("born", ("put", "own", "w")), does("put", ("put", "own", "x")),
                does("drop", ("drop", "own")),
            ),),
            (("part", "man", looks("own", ("say", "seen"))),),
            (("cut", "man", "own"),),
        )
        standing = ("man", 0, (("own", "w"),))
        self.check(
            script, (make(), ("read", 0, "own"), NEXT, ("read", 0, "own"), call("put"), call("drop")),
            (("thing", 0), said("w"), ("ran", 1), said("seen"), fault("looks", "own"), fault("looks", "own")),
            (standing,),
        )
        self.check_last(script, (make(), NEXT, NEXT, ("read", 0, "own")), said("w"))

    def test_untold(self):
        more = (looks("look", ("put", "own", "x"), ("keep", "new"), ("put", "own", "y")),)
        self.check_body((("tell", "look"),), fault("untold", "new"), more, own="x")

    def test_fields_are_told_ascending(self):
        body = tuple(("put", n, "w") for n in ("z", "a", "pa", "p"))
        script = script_of(("man born make",), (klass("man", "", does("born", *body)),))
        self.check(script, (make(),), (("thing", 0),), (
            ("man", 0, (("a", "w"), ("p", "w"), ("pa", "w"), ("z", "w"))),
        ))


class Reading(BodyCase):
    def rows(self, n):
        """The rows that read n, those with a test too."""
        return (("tell", n), ("if", ("is", n, "w"), (("put", "own", "x"),), (("put", "own", "y"),)))

    def test_the_fault_does(self):
        for row in self.rows("act"):
            self.check_fault(row, "does", "act")

    def test_the_fault_lacks(self):
        for row in self.rows("none"):
            self.check_fault(row, "lacks", "none")

    def test_the_fault_of_a_looks_goes_on(self):
        more = (looks("look", ("put", "new", "x"), ("tell", "none"), ("put", "new", "y")),)
        for row in self.rows("look"):
            body = (("put", "ahead", "a"), row, ("put", "behind", "b"))
            self.check_body(body, fault("lacks", "none"), more, ahead="a", new="x")

    def test_an_own_field_is_ahead_of_a_value_and_of_a_does(self):
        self.check_body((("put", "val", "x"), ("tell", "val")), said("x"), val="x")
        self.check_body((("put", "act", "x"), ("tell", "act")), said("x"), act="x")

    def test_the_first_class_that_has_one(self):
        self.check_body((("tell", "val"),), said("mine"), (value("val", "mine"),))
        self.check_body((("tell", "val"),), fault("does", "val"), (does("val"),))
        self.check_body((("tell", "act"),), said("mine"), (value("act", "mine"),))
        self.check_body((("tell", "view"),), said("mine"), (value("view", "mine"),))
        self.check_body((("tell", "act"),), said("mine"), (looks("act", ("say", "mine")),))

    def test_the_deed(self):
        script = script_of(
            ("man born make",) + tuple(f"man {n} read" for n in ("own", "val", "view", "act", "none", "look")),
            (KIN, klass("man", "kin", BORN, looks("look", ("put", "own", "x"), ("tell", "none")))),
        )
        self.check(
            script, (make(),) + tuple(("read", 0, n) for n in ("own", "val", "view", "act", "none", "look", "own")),
            (
                ("thing", 0), said("w"), said("valued"), said("seen"), fault("does", "act"),
                fault("lacks", "none"), fault("lacks", "none"), said("x"),
            ),
            (("man", 0, (("own", "x"),)),),
        )

    def test_a_looks_that_says_nothing(self):
        script = script_of(("man born make", "man look read"), (klass("man", "", looks("look", ("put", "own", "x"))),))
        self.check(script, (make(), ("read", 0, "look")), (("thing", 0), said("")), (("man", 0, (("own", "x"),)),))


class Ifs(BodyCase):
    def check_test(self, test, met, ahead=(), more=()):
        """The test is met or not, behind these rows."""
        body = ahead + (("if", test, (("say", "yes"),), (("say", "no"),)),)
        script_more = (does("ask", *body),) + more
        # The fields that the rows leave are of no interest here.
        script = script_of(
            ("man born make", "man ask call"),
            (KIN, klass("man", "kin", does("born", ("put", "own", "w")), *script_more), klass("other", "")),
        )
        self.check_last(script, (make(), call("ask")), said("yes" if met else "no"))

    def test_has(self):
        self.check_test(("has", "own"), True)
        for n in ("none", "val", "act", "view"):
            self.check_test(("has", n), False)
        self.check_test(("has", "own"), False, (("drop", "own"),))
        self.check_test(("has", "act"), True, (("put", "act", "x"),))

    def test_is(self):
        self.check_test(("is", "own", "w"), True)
        self.check_test(("is", "own", "x"), False)
        self.check_test(("is", "val", "valued"), True)
        self.check_test(("is", "val", "w"), False)
        self.check_test(("is", "view", "seen"), True)
        self.check_test(("is", "view", "own"), False)
        self.check_test(("is", "look", "w"), False, more=(looks("look"),))

    def test_is_reads_once(self):
        more = (looks("look", ("if", ("has", "once"), (("tell", "none"),), (("put", "once", "x"), ("say", "w")))),)
        self.check_test(("is", "look", "w"), True, more=more)

    def test_kin(self):
        self.check_test(("kin", "man"), True)
        self.check_test(("kin", "kin"), True)
        self.check_test(("kin", "other"), False)

    def test_told(self):
        self.check_test(("told", "go"), True)
        self.check_test(("told", "stop"), False)
        self.check_test(("told", "w"), False)

    def test_guest_without_one(self):
        self.check_test(("guest", "man"), False)

    def test_the_fault_name(self):
        for test in (("kin", "none"), ("guest", "none")):
            self.check_fault(("if", test, (("put", "own", "x"),), (("put", "own", "y"),)), "name", "none")

    def test_an_if_that_ends(self):
        body = (("if", ("has", "own"), (("say", "yes"), ("put", "own", "x")), ()), ("put", "own", "y"))
        self.check_body(body, said("yes"))
        body = (("if", ("has", "none"), (), (("tell", "own"),)), ("put", "own", "y"))
        self.check_body(body, said("w"))
        body = (("if", ("has", "own"), (("give", ("own", "act")),), ()), ("put", "own", "y"))
        self.check_body(body, said("acted"))

    def test_an_if_that_does_not_end(self):
        body = (("if", ("has", "own"), (("put", "a", "x"), ("put", "b", "x")), (("put", "c", "x"),)), ("put", "d", "x"))
        self.check_body(body, said(""), a="x", b="x", d="x")
        no = (("say", "no"),)
        body = (("if", ("has", "own"), (), no), ("if", ("has", "none"), no, ()), ("say", "end"))
        self.check_body(body, said("end"))
        body = (("if", ("has", "own"), (("do", ("own", "act")),), ()), ("say", "end"))
        self.check_body(body, said("end"))

    def test_ifs_in_one_another(self):
        def inner(n):
            return ("if", ("has", n), (("put", "a", "x"),), (("put", "b", "x"),))
        body = (("if", ("has", "own"), (inner("own"), ("put", "c", "x")), (inner("own"),)), ("say", "end"))
        self.check_body(body, said("end"), a="x", c="x")
        body = (("if", ("has", "none"), (inner("own"),), (inner("none"), ("put", "c", "x"))), ("say", "end"))
        self.check_body(body, said("end"), b="x", c="x")
        inner_if = ("if", ("has", "own"), (("say", "in"),), ())
        body = (("if", ("has", "own"), (inner_if, ("say", "out")), ()), ("say", "end"))
        self.check_body(body, said("in"))


class Told(PlayCase):
    """Who knows the told word and the guest."""

    ASK = (
        ("if", ("told", "stop"), (("put", "told", "yes"),), (("put", "told", "no"),)),
        ("if", ("guest", "dog"), (("put", "guest", "yes"),), (("put", "guest", "no"),)),
    )

    def check_told(self, *parts, known, stage=(), deeds=(("call", 0, "run", "stop", 1),)):
        script = script_of(
            ("man born make", "dog born make", "man run call", "man run read"),
            (
                klass("kin", "", does("ask", *self.ASK), looks("look", *self.ASK)), klass("dog", ""),
                klass("man", "kin", *parts),
            ),
            stage,
        )
        history = (make(), make("dog")) + deeds
        answers = (("thing", 0), ("thing", 1)) + (said(""),) * len(deeds)
        word = "yes" if known else "no"
        standing = ("man", 0, (("guest", word), ("told", word)))
        self.check(script, history, answers, (standing, ("dog", 0, ())))

    def test_the_body_that_is_called(self):
        self.check_told(does("run", *self.ASK), known=True)

    def test_do_and_give_hand_them_on(self):
        for way in ("do", "give"):
            self.check_told(does("run", (way, ("own", "ask"))), known=True)
            self.check_told(does("run", (way, ("past", "man", "ask"))), known=True)
            self.check_told(does("run", (way, ("base", "kin", "ask"))), known=True)
            self.check_told(does("run", (way, ("up", "ask"))), known=True)
            self.check_told(does("run", (way, ("own", "on"))), does("on", (way, ("up", "ask"))), known=True)
            self.check_told(does("run", ("if", ("has", "no"), (), ((way, ("own", "ask")),))), known=True)

    def test_not_to_a_looks_that_is_read(self):
        self.check_told(does("run", ("tell", "look")), known=False)
        self.check_told(does("run", ("if", ("is", "look", "w"), (), ())), known=False)
        self.check_told(looks("run", *self.ASK), known=False, deeds=(("read", 0, "run"),))

    def test_not_to_what_a_looks_calls(self):
        for way in ("do", "give"):
            self.check_told(does("run", ("tell", "on")), looks("on", (way, ("own", "ask"))), known=False)
            self.check_told(does("run", ("tell", "on")), looks("on", (way, ("up", "ask"))), known=False)
            self.check_told(
                does("run", ("tell", "on")), looks("on", (way, ("own", "far"))),
                does("far", (way, ("base", "kin", "ask"))), known=False,
            )

    def test_they_are_known_again_behind_a_looks(self):
        self.check_told(does("run", ("if", ("is", "look", "w"), (), ()), ("do", ("own", "ask"))), known=True)

    def test_a_looks_that_is_called_knows_neither(self):
        for target in (("own", "look"), ("up", "look"), ("past", "man", "look"), ("base", "kin", "look")):
            script = script_of(
                ("man born make", "dog born make", "man run call"),
                (
                    klass("kin", "", does("ask", *self.ASK), looks("look", *self.ASK)), klass("dog", ""),
                    klass("man", "kin", does("run", ("do", target))),
                ),
            )
            self.check(
                script, (make(), make("dog"), ("call", 0, "run", "stop", 1)),
                (("thing", 0), ("thing", 1), fault("word", "look")),
                (("man", 0, (("guest", "no"), ("told", "no"))), ("dog", 0, ())),
            )

    def test_a_ring(self):
        deeds = (("call", 0, "run", "go", None), ("call", 0, "run", "stop", 1))
        self.check_told(does("run", *self.ASK), known=True, deeds=deeds)
        script = script_of(
            ("man born make", "dog born make", "man run call"),
            (klass("dog", ""), klass("man", "", does("run", ("do", ("own", "ask"))), does("ask", *self.ASK))),
        )
        for w, guest, fields in (
            ("stop", 1, (("guest", "yes"), ("told", "yes"))), ("stop", None, (("guest", "no"), ("told", "yes"))),
            ("go", 1, (("guest", "yes"), ("told", "no"))), ("go", 0, (("guest", "no"), ("told", "no"))),
        ):
            self.check(
                script, (make(), make("dog"), ("hold", 0, "run"), ("ring", 0, w, guest)),
                (("thing", 0), ("thing", 1), ("held", 0), said("")),
                (("man", 0, fields), ("dog", 0, ())),
            )

    def test_a_make_has_the_word_but_no_guest(self):
        script = script_of(("man born make",), (klass("dog", ""), klass("man", "dog", does("born", *self.ASK))))
        for w, told in (("go", "no"), ("stop", "yes")):
            self.check(script, (make(w=w),), (("thing", 0),), (("man", 0, (("guest", "no"), ("told", told))),))

    def test_the_guest_by_its_class_as_that_is_now(self):
        ask = does("ask", ("if", ("guest", "dog"), (("say", "yes"),), (("say", "no"),)))
        script = script_of(
            ("dog born make", "pup born make", "man ask call", "man born make"),
            (klass("dog", ""), klass("pup", "dog"), klass("man", "", ask)),
            (klass("dog", ""), klass("pup", "dog")),
            (("lead", "pup"), ("part", "man", does("none"))),
        )
        makes = (make("man"), make("dog"), make("pup"))

        def answers(*guests):
            return tuple(("call", 0, "ask", "go", guest) for guest in guests)
        self.check_answers(script, makes + answers(0, 1, 2, None), ("no", "yes", "yes", "no"))
        # Now dog is another class, of which the elder things are not.
        new = makes + (NEXT, make("pup", 1))
        self.check_answers(script, new + answers(0, 1, 2, 3), ("no", "no", "no", "yes"))
        self.check_answers(script, new + (NEXT,) + answers(1, 2, 3), ("no", "yes", "yes"))

    def check_answers(self, script, history, words):
        for at, word in enumerate(words):
            end = len(history) - len(words) + at + 1
            self.check_last(script, history[:end], said(word))

    def test_guest_is_the_fault_name_with_or_without_a_guest(self):
        ask = does("ask", ("if", ("guest", "dog"), (), ()))
        for stages in (((klass("man", "", ask),),), ((klass("dog", ""), klass("man", "", ask), ("forget", "dog")),)):
            script = script_of(("man ask call", "man born make"), *stages)
            for guest in (None, 0):
                self.check_last(script, (make(), ("call", 0, "ask", "go", guest)), fault("name", "dog"))
        asks = looks("look", ("if", ("guest", "dog"), (), ()))
        script = script_of(("man look read", "man born make"), (klass("man", "", asks),))
        self.check_last(script, (make(), ("read", 0, "look")), fault("name", "dog"))
