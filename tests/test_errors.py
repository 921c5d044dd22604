"""The errors (point 3)."""

import copy
import inspect
import pickle
import unittest

from remadeclasses import errors
from remadeclasses.errors import (
    BadDeed, BadScript, BadText, NoSuch, NothingToUndo, RemadeError, TooMany, Unlike,
)

ATTRIBUTES = {
    BadScript: ("place", "why"),
    BadDeed: ("index",),
    BadText: ("line",),
    Unlike: ("stage",),
    TooMany: (),
    NoSuch: ("value",),
    NothingToUndo: (),
}

VALUES = (
    None, True, False, 0, -1, 10 ** 29, "", "word", "two\nlines", (), ((2, 0), "step"),
    [], [1, [2]], {}, {"a": {"b": [()]}}, "~" * 4000,
)


class Errors(unittest.TestCase):
    def test_the_base_stands_directly_under_value_error(self):
        self.assertEqual(RemadeError.__bases__, (ValueError,))

    def test_the_others_stand_directly_under_the_base(self):
        for error in ATTRIBUTES:
            with self.subTest(error=error):
                self.assertEqual(error.__bases__, (RemadeError,))

    def test_there_are_no_others(self):
        found = [thing for _, thing in inspect.getmembers(errors, inspect.isclass)]
        self.assertEqual(set(found), {RemadeError, *ATTRIBUTES})

    def test_all_are_defined_in_errors(self):
        for error in (RemadeError, *ATTRIBUTES):
            with self.subTest(error=error):
                self.assertEqual(error.__module__, "remadeclasses.errors")

    def test_what_is_given_is_kept_unchanged(self):
        for error, names in ATTRIBUTES.items():
            for at, name in enumerate(names):
                for value in VALUES:
                    with self.subTest(error=error, name=name, value=value):
                        told = [object() for _ in names]
                        told[at] = value
                        ahead = repr(value)
                        kept = error(*told)
                        self.assertIs(getattr(kept, name), value)
                        self.assertEqual(repr(value), ahead)

    def test_each_attribute_keeps_its_own_argument(self):
        for error, names in ATTRIBUTES.items():
            with self.subTest(error=error):
                told = [object() for _ in names]
                self.assertEqual(vars(error(*told)), dict(zip(names, told)))

    def test_each_takes_what_stands_in_its_brackets_and_no_more(self):
        for error, names in ATTRIBUTES.items():
            for many in range(4):
                if many == len(names):
                    continue
                with self.subTest(error=error, many=many), self.assertRaises(TypeError):
                    error(*range(many))

    def test_each_is_caught_by_its_name_and_by_those_above(self):
        for error, names in ATTRIBUTES.items():
            for above in (error, RemadeError, ValueError):
                with self.subTest(error=error, above=above), self.assertRaises(above):
                    raise error(*names)

    def test_none_is_caught_by_the_name_of_another(self):
        for error, names in ATTRIBUTES.items():
            for other in ATTRIBUTES:
                if other is not error:
                    with self.subTest(error=error, other=other):
                        self.assertNotIsInstance(error(*names), other)

    def test_each_has_a_text(self):
        for error, names in ATTRIBUTES.items():
            for value in VALUES:
                with self.subTest(error=error, value=value):
                    self.assertIs(type(str(error(*[value for _ in names]))), str)

    def test_copies_keep_what_was_given(self):
        for error, names in ATTRIBUTES.items():
            for again in (copy.copy, copy.deepcopy, lambda one: pickle.loads(pickle.dumps(one))):
                with self.subTest(error=error):
                    one = error(*[(2, [name]) for name in names])
                    other = again(one)
                    self.assertIs(type(other), error)
                    self.assertEqual(vars(other), vars(one))
