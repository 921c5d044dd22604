"""table_of: the least table (point 11)."""

import unittest

from acting import S, does, klass, looks, script_of, value
from crowded import CROWDED, FULL, HALF_CROWDED, SPLIT_FULL, TOO_MANY, all_of, split, steps_through
from remadeclasses.errors import TooMany
from remadeclasses.scripts import script_error
from remadeclasses.standings import standings
from remadeclasses.tables import shut_error, table_of


class TableCase(unittest.TestCase):
    def check(self, script, *told):
        """This is the least table."""
        self.assertIsNone(script_error(script))
        ahead = repr(script)
        for _ in range(2):
            self.assertEqual(table_of(script), told)
            self.assertEqual(repr(table_of(script)), repr(told))
        for stage, row in enumerate(told):
            self.assertEqual(row, tuple(sorted(set(row))))
            self.assertEqual(tuple(sorted({standing for standing, _ in row})), standings(script, stage))
        self.assertIsNone(shut_error(script, told))
        self.assertEqual(repr(script), ahead)


class Plain(TableCase):
    def test_the_document(self):
        adam, sir = ("man", 0, (("name", "adam"),)), (("title", "sir"),)
        self.check(
            S, ((adam, ((0, 0, 1),)),),
            (
                (adam, ((0, 0, 1),)), (("man", 1, adam[2]), ((0, 0, 1), (1, 0, 1))), (("man", 1, sir), ((1, 0, 1),)),
            ),
        )

    def test_empty_stages(self):
        self.check(script_of((), ()), ())
        self.check(script_of(("man born make",), (), (klass("man", ""),), ()), (), *[((("man", 0, ()), ()),)] * 2)
        self.check(script_of((), (), (), ()), (), (), ())

    def test_what_is_held(self):
        # Only a does, offered for call, with no own field ahead of it.
        man = klass("man", "kin", does("act"), looks("see"), value("val", "w"))
        born = does("born", ("if", ("told", "go"), (("put", "far", "w"),), ()))
        script = script_of(
            ["man born make"] + ["man " + n + " call" for n in ("act", "born", "far", "see", "val", "void")],
            (klass("kin", "", does("act"), born, does("far"), does("near")), man),
        )
        self.check(script, (
            (("man", 0, ()), ((0, 0, 1), (0, 0, 2), (0, 1, 0))),
            (("man", 0, (("far", "w"),)), ((0, 0, 1), (0, 0, 2), (0, 1, 0))),
        ))
        man = klass("man", "", does("act"), does("born", ("if", ("told", "go"), (("put", "act", "w"),), ())))
        self.check(script_of(("man act call", "man born make"), (man,)), (
            (("man", 0, ()), ((0, 0, 0),)), (("man", 0, (("act", "w"),)), ()),
        ))
        self.check(script_of(("man act read", "man born make"), (man,)), (
            (("man", 0, ()), ()), (("man", 0, (("act", "w"),)), ()),
        ))

    def test_held_stays(self):
        # In stage 1 the part is cut, in stage 2 its name has a newer class.
        script = script_of(
            ("man act call", "man born make"), (klass("man", "", does("act")),),
            (("part", "man", does("act")), ("part", "man", value("born", "w"))),
            (klass("man", "", does("act"), value("born", "w")), ("lead", "man")),
        )
        self.check(
            script, ((("man", 0, ()), ((0, 0, 0),)),), ((("man", 0, ()), ((0, 0, 0), (1, 0, 0))),),
            ((("man", 1, ()), ((0, 0, 0), (1, 0, 0), (2, 0, 0))),),
        )

    def test_what_may_be_held_within_a_stage_only(self):
        # Behind stage 0 and behind stage 1 there is another body; the steps are run
        # at once, so nobody holds the one that stands between.
        script = script_of(
            ("man act call", "man born make"), (klass("man", ""),),
            (("part", "man", does("act")), ("part", "man", does("act"))),
        )
        self.check(script, ((("man", 0, ()), ()),), ((("man", 0, ()), ((1, 1, 0),)),))

    def test_several_entries_of_a_standing(self):
        born = does("born", ("if", ("told", "go"), (("put", "one", "x"),), (("put", "other", "x"),)))
        script = script_of(
            ("man born make", "man one call", "man other call"), (klass("man", "", born, does("one"), does("other")),),
            (("clear", "man", "one"), ("clear", "man", "other"), ("cut", "man", "one"), ("cut", "man", "other")),
            (("part", "man", value("born", "w")),),
        )
        one, other = ("man", 0, (("one", "x"),)), ("man", 0, (("other", "x"),))
        last = ((("man", 0, ()), ((0, 0, 1),)), (("man", 0, ()), ((0, 0, 2),)), (one, ()), (other, ()))
        self.check(script, ((one, ((0, 0, 2),)), (other, ((0, 0, 1),))), last, last)

    def test_what_is_covered(self):
        # Whoever holds act holds it also when it is shut again, and covers those men
        # that were never open.
        man = klass("man", "", does("act"), does("born", ("put", "act", "x")), does("shut", ("put", "act", "x")),
                    does("open", ("if", ("has", "act"), (("drop", "act"),), ())))
        script = script_of(("man act call", "man born make", "man open call", "man shut call"), (man,))
        self.check(script, (
            (("man", 0, ()), ((0, 0, 0), (0, 0, 2), (0, 0, 3))),
            (("man", 0, (("act", "x"),)), ((0, 0, 0), (0, 0, 2), (0, 0, 3))),
        ))
        script = script_of(("man act call", "man born make", "man shut call"), (man,))
        self.check(script, ((("man", 0, (("act", "x"),)), ((0, 0, 3),)),))

    def test_covered_behind_a_stage(self):
        # Of the men without the field those that had it hold less, and are covered.
        man = klass("man", "", does("act"), does("born", ("if", ("told", "go"), (("put", "act", "x"),), ())))
        script = script_of(
            ("man act call", "man born make"), (man,), (("cut", "man", "act"), ("clear", "man", "act"),
                                                        ("part", "man", value("born", "w"))),
        )
        self.check(
            script, ((("man", 0, ()), ((0, 0, 0),)), (("man", 0, (("act", "x"),)), ())),
            ((("man", 0, ()), ((0, 0, 0),)),),
        )

    def test_fill_lead_and_clear_in_order(self):
        script = script_of(
            ("man act call", "man born make"), (klass("man", "", does("act")),),
            (klass("man", "", does("act"), value("born", "w")), ("fill", "man", "n", "w"), ("lead", "man"),
             ("fill", "man", "m", "w")),
            (("clear", "man", "m"), ("clear", "man", "void")),
        )
        # No elder man is left, but some are made in stages 1 and 2; nobody is kin to
        # the class of the name man when n is put.
        elder, newer = (("man", 0, ()), ((0, 0, 0),)), ((0, 0, 0), (1, 0, 0))
        self.check(
            script, (elder,), (elder, (("man", 1, (("m", "w"),)), newer)), (elder, (("man", 1, ()), newer)),
        )


class Most(TableCase):
    def test_sixty(self):
        self.check(FULL, tuple((standing, ((0, 0, 0), (0, 0, 1), (0, 0, 2))) for standing in CROWDED))
        last = table_of(SPLIT_FULL)[2]
        self.assertEqual(len(last), 60)
        places = ((0, 0, 0), (0, 0, 1), (0, 0, 2))
        self.assertEqual(last, tuple(
            (standing, places + (other,)) for standing in HALF_CROWDED for other in ((0, 1, 1), (0, 1, 2))
        ))
        self.assertIsNone(shut_error(SPLIT_FULL, table_of(SPLIT_FULL)))

    def test_covered_ones_do_not_count(self):
        stepped = (steps_through("a", "p", "q", "r", "s"), steps_through("b", "p"), steps_through("c", "p"))
        script = split(*stepped, one=(("drop", "other"),))
        self.assertEqual(len(all_of(("a", "pqrs"), ("b", "p"), ("c", "p"))), 20)
        self.assertEqual([len(rows) for rows in table_of(script)], [60, 60, 20])

    def test_more(self):
        for script in TOO_MANY:
            with self.assertRaises(TooMany):
                table_of(script)


if __name__ == "__main__":
    unittest.main()
