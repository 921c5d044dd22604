"""made: the orders of classes, held against those of Python's own classes (point 6)."""

import itertools
import unittest

from acting import klass, script_of
from remadeclasses.classes import made


class Root:
    """The base of Python's classes here: those without bases have it."""


def rows_of(words, most=3):
    """All rows of different words."""
    for many in range(min(most, len(words)) + 1):
        yield from itertools.permutations(words, many)


def python_classes(steps):
    """Python's own classes by these steps class, and how many steps were run."""
    found = {}
    for ran, (_, c, words, _) in enumerate(steps):
        try:
            found[c] = type(c, tuple(found[word] for word in words) or (Root,), {})
        except TypeError:
            return found, ran
    return found, len(steps)


def python_orders(found):
    """The orders of Python's own classes as made tells them."""
    return tuple(sorted(
        ((c, 0), tuple((one.__name__, 0) for one in found[c].__mro__ if one not in (Root, object)))
        for c in found
    ))


def families():
    """Tuples of four steps class, each with some of those ahead as bases."""
    for b in rows_of("a"):
        for c in rows_of("ab"):
            for d in rows_of("abc"):
                yield tuple(("class", n, row, ()) for n, row in zip("abcd", ((), b, c, d)))


class Orders(unittest.TestCase):
    def check(self, script, stage, orders, ran):
        with self.subTest(script=script):
            names, classes, many = made(script, stage)
            self.assertEqual(classes, orders)
            self.assertEqual(many, ran)
            self.assertEqual(names, tuple(key for key, _ in orders))

    def test_all_families_of_four(self):
        wrong = 0
        for steps in families():
            found, ran = python_classes(steps)
            wrong += ran < 4
            self.check(script_of((), steps), 0, python_orders(found), ran)
        self.assertGreater(wrong, 0)

    def test_seven_classes_over_two_stages(self):
        # The example of Python's own description of the merge, and others like it.
        for d, e in itertools.product(rows_of("abc"), rows_of("abc")):
            steps = (
                ("class", "o", (), ()), ("class", "a", ("o",), ()), ("class", "b", ("o",), ()),
                ("class", "c", ("o",), ()), ("class", "d", d, ()), ("class", "e", e, ()),
                ("class", "f", ("d", "e"), ()),
            )
            found, ran = python_classes(steps)
            self.check(script_of((), steps[:4], steps[4:]), 1, python_orders(found), ran - 4)

    def test_all_rebases_in_all_families_of_four(self):
        told = {True: 0, False: 0}
        for steps in families():
            if python_classes(steps)[1] < 4:
                continue
            for c in "abc":
                for words in rows_of("abcd", 2):
                    found, _ = python_classes(steps)
                    try:
                        found[c].__bases__ = tuple(found[word] for word in words) or (Root,)
                        ran = 1
                    except TypeError:
                        ran = 0
                    told[ran == 1] += 1
                    script = script_of((), steps, (("rebase", c, words),))
                    self.check(script, 1, python_orders(found), ran)
        self.assertGreater(min(told.values()), 100)


class Merges(unittest.TestCase):
    def orders(self, *stages):
        return dict(made(script_of((), *stages), len(stages) - 1)[1])

    def test_a_class_without_bases_has_itself(self):
        self.assertEqual(self.orders((klass("a", ""),)), {("a", 0): (("a", 0),)})

    def test_a_diamond(self):
        found = self.orders((klass("a", ""), klass("b", "a"), klass("c", "a"), klass("d", "c b")))
        self.assertEqual(found[("d", 0)], (("d", 0), ("c", 0), ("b", 0), ("a", 0)))

    def test_the_row_of_the_bases_counts(self):
        # Without it the merge would be d, a, b.
        script = script_of((), (klass("a", ""), klass("b", "a"), klass("d", "a b"), klass("e", "")))
        self.assertEqual(made(script, 0)[2], 2)
        self.assertEqual(self.orders((klass("a", ""), klass("b", ""), klass("d", "b a")))[("d", 0)], (
            ("d", 0), ("b", 0), ("a", 0),
        ))

    def test_a_new_class_on_the_elder_one_of_its_name(self):
        found = self.orders((klass("a", ""), klass("a", "a"), klass("a", "a"), klass("b", "a")))
        self.assertEqual(found, {
            ("a", 0): (("a", 0),),
            ("a", 1): (("a", 1), ("a", 0)),
            ("a", 2): (("a", 2), ("a", 1), ("a", 0)),
            ("b", 0): (("b", 0), ("a", 2), ("a", 1), ("a", 0)),
        })

    def test_elder_classes_stay_in_bases(self):
        found = self.orders(
            (klass("a", ""), klass("b", "a")),
            (klass("a", ""), klass("c", "b a"), klass("d", "a b")),
        )
        self.assertEqual(found[("b", 0)], (("b", 0), ("a", 0)))
        self.assertEqual(found[("c", 0)], (("c", 0), ("b", 0), ("a", 0), ("a", 1)))
        self.assertEqual(found[("d", 0)], (("d", 0), ("a", 1), ("b", 0), ("a", 0)))

    def test_a_rebase_reaches_those_below_an_elder_class(self):
        # The elder b is below the elder a, which the rebase changes by its heir.
        found = self.orders(
            (klass("o", ""), klass("a", ""), klass("b", "a"), klass("b", "b")),
            (("rebase", "a", ("o",)), ("forget", "a")),
        )
        self.assertEqual(found, {
            ("a", 0): (("a", 0), ("o", 0)),
            ("b", 0): (("b", 0), ("a", 0), ("o", 0)),
            ("b", 1): (("b", 1), ("b", 0), ("a", 0), ("o", 0)),
            ("o", 0): (("o", 0),),
        })

    def test_a_rebase_to_a_class_made_later(self):
        found = self.orders((klass("a", ""), klass("b", ""), klass("c", "b"), ("rebase", "a", ("c",))))
        self.assertEqual(found[("a", 0)], (("a", 0), ("c", 0), ("b", 0)))

    def test_a_rebase_to_the_newer_class_of_its_base(self):
        found = self.orders(
            (klass("a", ""), klass("b", "a"), klass("a", ""), ("rebase", "b", ("a",))),
            (klass("a", "b"), ("rebase", "b", ())),
        )
        self.assertEqual(found[("b", 0)], (("b", 0),))
        self.assertEqual(found[("a", 2)], (("a", 2), ("b", 0)))
        self.assertEqual(found[("a", 1)], (("a", 1),))
