"""script_error: the script, its words, its offers and its stages (point 5)."""

from samples import (
    LONG, NO_TUPLES, NO_WORDS, RICH, ScriptCase, with_stages,
)

STAGES = ((),)
OFFERS = (
    ("a", "b", "call"), ("a", "b", "read"), ("a", "born", "call"), ("a", "born", "make"),
    ("a", "born", "read"), ("b", "a", "read"), (LONG, "born", "make"), ("man", "greet", "call"),
    ("zoo", "a", "call"),
)


class Right(ScriptCase):
    def test_the_least_script(self):
        self.check((("go",), (), ((),)), None)

    def test_as_much_as_may_be(self):
        self.check(RICH, None)

    def test_the_script_of_the_example(self):
        self.check((("go",), (("man", "greet", "call"),), ((("class", "man", (), (
            ("born", "does", (("put", "name", "adam"),)),
            ("greet", "does", (("if", ("has", "name"), (("tell", "name"),), ()),)),
        )),),)), None)


class Script(ScriptCase):
    def test_no_tuple_of_three(self):
        for value in NO_TUPLES:
            self.check(value, ((), "script"))
        right = (("go",), (), STAGES)
        for value in ((), right[:1], right[:2], right + ((),), right + (None,), list(right), (right,)):
            self.check(value, ((), "script"))
        self.check("abc", ((), "script"))
        self.check({"a": 1, "b": 2, "c": 3}, ((), "script"))

    def test_it_goes_ahead_of_the_words(self):
        self.check((None, (), STAGES, ()), ((), "script"))
        self.check([None, None, None], ((), "script"))


class Words(ScriptCase):
    def test_one_or_two_words(self):
        for words in (("a",), (LONG,), ("go", "stop"), ("a", "aa"), ("y", "z"), ("abc", "b")):
            self.check((words, (), STAGES), None)

    def test_no_tuple_of_one_or_two(self):
        for words in NO_TUPLES + ((), ("a", "b", "c"), ["go"], ["go", "stop"], "go", ("go", ())):
            self.check((words, (), STAGES), ((0,), "words"))

    def test_no_words(self):
        for word in NO_WORDS:
            self.check(((word,), (), STAGES), ((0,), "words"))
            self.check((("a", word), (), STAGES), ((0,), "words"))
            self.check(((word, "z"), (), STAGES), ((0,), "words"))

    def test_not_ascending(self):
        for words in (("go", "go"), ("stop", "go"), ("aa", "a"), ("b", "abc")):
            self.check((words, (), STAGES), ((0,), "words"))

    def test_they_go_ahead_of_the_offers_and_the_stages(self):
        self.check(((), [], ()), ((0,), "words"))
        self.check((("b", "a"), None, None), ((0,), "words"))


class Offers(ScriptCase):
    def check_offers(self, offers, told):
        self.check((("go",), offers, STAGES), told)

    def test_up_to_eight(self):
        for many in range(9):
            self.check_offers(OFFERS[:many], None)
        self.check_offers(OFFERS, ((1,), "offers"))

    def test_each_way(self):
        for way in ("call", "read"):
            self.check_offers(((LONG, LONG, way),), None)
            self.check_offers((("a", "born", way),), None)
        self.check_offers((("a", "born", "make"),), None)

    def test_make_goes_with_born_alone(self):
        for n in ("greet", "bor", "borna", "a", "make"):
            self.check_offers((("a", n, "make"),), ((1,), "offers"))

    def test_other_ways(self):
        for way in ("hold", "ring", "next", "Call", "", "calls", None, True, 0, ("call",), ["call"], {}):
            self.check_offers((("a", "born", way),), ((1,), "offers"))

    def test_no_tuple(self):
        for offers in NO_TUPLES + (list(OFFERS[:2]),):
            self.check_offers(offers, ((1,), "offers"))

    def test_no_tuple_of_three(self):
        for offer in NO_TUPLES + ((), ("a",), ("a", "b"), ("a", "b", "call", "call"), ["a", "b", "call"]):
            self.check_offers((offer,), ((1,), "offers"))
            self.check_offers((("a", "a", "call"), offer), ((1,), "offers"))

    def test_an_offer_in_the_place_of_the_offers(self):
        self.check_offers(("a", "b", "call"), ((1,), "offers"))

    def test_no_words(self):
        for word in NO_WORDS:
            self.check_offers(((word, "a", "call"),), ((1,), "offers"))
            self.check_offers((("a", word, "call"),), ((1,), "offers"))
            self.check_offers((("a", word, "make"),), ((1,), "offers"))
            self.check_offers(((word, "born", "make"),), ((1,), "offers"))

    def test_not_ascending(self):
        for at in range(7):
            one, other = OFFERS[at], OFFERS[at + 1]
            self.check_offers((other, one), ((1,), "offers"))
            self.check_offers((one, one), ((1,), "offers"))
        self.check_offers((OFFERS[0], OFFERS[2], OFFERS[1]), ((1,), "offers"))

    def test_they_go_ahead_of_the_stages(self):
        for stages in (None, (), ((None,),)):
            self.check((("go",), None, stages), ((1,), "offers"))


class Stages(ScriptCase):
    def test_one_to_three(self):
        for many in (1, 2, 3):
            self.check(with_stages(*[() for _ in range(many)]), None)
        for many in (0, 4, 5):
            self.check(with_stages(*[() for _ in range(many)]), ((2,), "stages"))

    def test_no_tuple(self):
        for stages in NO_TUPLES + ([(), ()],):
            self.check((("go",), (), stages), ((2,), "stages"))

    def test_it_goes_ahead_of_each_stage(self):
        self.check(with_stages(None, (), (), ()), ((2,), "stages"))
        self.check(with_stages((), (("lead",),), [], None), ((2,), "stages"))


class Stage(ScriptCase):
    def test_up_to_four_steps(self):
        step = ("lead", "a")
        for k in range(3):
            stages = [(), (), ()]
            for many in range(5):
                stages[k] = (step,) * many
                self.check(with_stages(*stages), None)
            for many in (5, 6):
                stages[k] = (step,) * many
                self.check(with_stages(*stages), ((2, k), "stage"))

    def test_no_tuple(self):
        for k in range(3):
            for stage in NO_TUPLES + ([("lead", "a")],):
                stages = [(), (), ()]
                stages[k] = stage
                self.check(with_stages(*stages), ((2, k), "stage"))

    def test_it_goes_ahead_of_its_steps(self):
        self.check(with_stages((None,) * 5), ((2, 0), "stage"))
        self.check(with_stages([None]), ((2, 0), "stage"))

    def test_the_steps_go_ahead_of_the_next_stage(self):
        self.check(with_stages((("lead", "a"), ("lead",)), None), ((2, 0, 1), "step"))
        self.check(with_stages((), (("lead",),), None), ((2, 1, 0), "step"))
        self.check(with_stages((), None, (("lead",),)), ((2, 1), "stage"))
        self.check(with_stages((("class", "a", (), []),), None), ((2, 0, 0, 3), "parts"))
