"""play and standings_after: histories that are none, and deeds that are not let by (point 8)."""

import copy

from acting import NEXT, PlayCase, call, does, klass, make, ring, said, script_of
from remadeclasses.plays import play
from samples import NO_TUPLES, NO_WORDS, put
from wrongdeeds import AHEAD, DEEDS, NO_NUMBERS, PARTS, SCRIPT, is_right


class Histories(PlayCase):
    def test_no_tuples(self):
        for history in NO_TUPLES + ([NEXT], [make("man", 1)], {"next": 0}, "next"):
            self.check_bad(SCRIPT, history, -1)
        self.check_bad(SCRIPT, list(AHEAD), -1)

    def test_a_deed_in_the_place_of_a_history(self):
        for deed, _ in DEEDS:
            self.check_bad(SCRIPT, deed, 0)

    def test_no_deeds(self):
        wrong = ((), ((),), (NEXT,), ("",), (None,), (["next"],), (0,), ("do",))
        for deed in NO_TUPLES + NO_WORDS + NO_NUMBERS + wrong:
            self.check_bad(SCRIPT, (deed,), 0)
            self.check_bad(SCRIPT, AHEAD + (deed,), 4)

    def test_the_first_wrong_deed_is_told(self):
        right = AHEAD + (NEXT, call("act"))
        for at in range(len(right) + 1):
            for wrong in (None, (), ("next", None), call("none")):
                self.check_bad(SCRIPT, right[:at] + (wrong,) + right[at:], at)
                self.check_bad(SCRIPT, right[:at] + (wrong, None, wrong), at)

    def test_deeply_nested(self):
        value = ()
        for _ in range(18):
            value = (value, [value])
            if len(repr(value)) > 2000:
                break
        for deed, _ in DEEDS:
            for at in range(len(deed)):
                self.check_bad(SCRIPT, AHEAD + (put(deed, at, value),), 4)

    def test_nothing_is_changed_and_the_next_call_is_none_the_wiser(self):
        history = AHEAD + (["call", 0, "act", "go", None],)
        ahead = repr((SCRIPT, history))
        for _ in range(2):
            self.check_bad(SCRIPT, history, 4)
            self.check_last(SCRIPT, AHEAD + (NEXT, call("act")), said("x"))
        self.assertEqual(repr((SCRIPT, history)), ahead)


class Deeds(PlayCase):
    def test_right_ones(self):
        for deed, _ in DEEDS:
            self.check(SCRIPT, AHEAD, (("thing", 0), ("thing", 1), ("held", 0), ("held", 1)))
            self.check_last(SCRIPT, AHEAD + (deed,), {
                "make": ("thing", 2), "hold": ("held", 2), "next": ("ran", 1), "read": said("v"),
            }.get(deed[0], said("" if deed[1:] == (1, "stop", 0) else "w")))

    def test_one_part_otherwise(self):
        for deed, mays in DEEDS:
            for at, may in enumerate(mays):
                for item in PARTS:
                    changed = put(deed, at, copy.deepcopy(item))
                    if is_right(item, may):
                        self.assertEqual(len(play(SCRIPT, AHEAD + (changed,))), 5)
                    else:
                        self.check_bad(SCRIPT, AHEAD + (changed,), 4)

    def test_a_part_more_or_less(self):
        for deed, _ in DEEDS:
            for many in range(len(deed)):
                self.check_bad(SCRIPT, AHEAD + (deed[:many],), 4)
            for more in (None, 0, "go", (), deed[-1]):
                self.check_bad(SCRIPT, AHEAD + (deed + (more,),), 4)

    def test_a_list_for_a_tuple(self):
        for deed, _ in DEEDS:
            self.check_bad(SCRIPT, AHEAD + (list(deed),), 4)

    def test_true_for_one_and_false_for_none(self):
        for deed in (
            make("man", True), make("dog", False), call("act", True), call("act", False), call("act", 0, "go", True),
            call("act", 0, "go", False), ("hold", True, "act"), ("hold", False, "act"), ("read", True, "see"),
            ("read", False, "see"), ring(True), ring(False), ring(0, "go", True), ring(0, "go", False),
        ):
            self.check_bad(SCRIPT, AHEAD + (deed,), 4)

    def test_what_is_not_there_yet(self):
        self.check_bad(SCRIPT, (call("act"),), 0)
        self.check_bad(SCRIPT, (make("man", 1), call("act", 1)), 1)
        self.check_bad(SCRIPT, (make("man", 1), call("act", 0, "go", 1)), 1)
        self.check_bad(SCRIPT, (make("man", 1), ring()), 1)
        self.check_bad(SCRIPT, (make("man", 1), ("hold", 0, "act"), ring(1)), 2)
        self.check_bad(SCRIPT, (make("man", 1), ("hold", 0, "act"), ring(0, "go", 1)), 2)

    def test_no_next_stage(self):
        self.check_bad(SCRIPT, (NEXT, NEXT), 1)
        for many in (1, 2, 3):
            script = script_of((), *[()] * many)
            self.check(script, (NEXT,) * (many - 1), (("ran", 0),) * (many - 1))
            self.check_bad(script, (NEXT,) * many, many - 1)
            self.check_bad(script, (NEXT,) * (many + 1), many - 1)

    def test_a_word_that_is_not_told_here(self):
        script = script_of(("man born make",), (klass("man", ""),), words=("go",))
        self.check(script, (make(),), (("thing", 0),))
        self.check_bad(script, (make(w="stop"),), 0)

    def test_nothing_is_offered(self):
        script = script_of((), (klass("man", "", does("act")),))
        self.check_bad(script, (make(),), 0)
