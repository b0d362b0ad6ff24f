"""Tests of the refusals: promise [2] and the interface of kindswap/errors.py."""

import copy
import unittest

from kindswap import errors
from samples import A, Loud, Yes, func

NAMES = ["NoText", "NoKind", "NoForm", "NoSizes", "TooMany", "NoDivisor", "NoWorth", "NoTerm",
         "Unlike", "NoLibrary", "NoName"]


class TestClasses(unittest.TestCase):
    def test_any_refusal_is_a_value_error(self):
        self.assertEqual(errors.SwapError.__bases__, (ValueError,))

    def test_each_class_stands_straight_under_swap_error(self):
        for name in NAMES:
            with self.subTest(name):
                self.assertEqual(getattr(errors, name).__bases__, (errors.SwapError,))

    def test_each_class_is_defined_in_the_file(self):
        for name in NAMES + ["SwapError"]:
            with self.subTest(name):
                self.assertEqual(getattr(errors, name).__module__, "kindswap.errors")
                self.assertEqual(getattr(errors, name).__name__, name)

    def test_none_is_caught_as_another_one(self):
        for name in NAMES:
            for other in NAMES:
                with self.subTest(name=name, other=other):
                    made = getattr(errors, name)("why")
                    self.assertEqual(isinstance(made, getattr(errors, other)), name == other)

    def test_each_is_made_of_one_text(self):
        for name in NAMES + ["SwapError"]:
            with self.subTest(name):
                made = getattr(errors, name)("why")
                self.assertIsInstance(made, errors.SwapError)
                self.assertIsInstance(made, ValueError)
                if name != "Unlike":
                    self.assertEqual(str(made), "why")
                with self.assertRaises(ValueError) as caught:
                    raise made
                self.assertIs(caught.exception, made)


class TestUnlike(unittest.TestCase):
    THINGS = [None, (), ([2, 3, 1, 1, 1, 1, 1, 1], 7), [], {}, set(), "why", 0, True, func(A, A),
              object(), Loud(), Yes(), ValueError("x"), errors.Unlike]

    def test_keeps_what_it_is_made_of_by_place(self):
        for thing in self.THINGS:
            self.assertIs(errors.Unlike(thing).apart, thing)

    def test_keeps_what_it_is_made_of_by_name(self):
        for thing in self.THINGS:
            self.assertIs(errors.Unlike(apart=thing).apart, thing)

    def test_keeps_it_when_raised_and_copied(self):
        for thing in self.THINGS:
            with self.assertRaises(errors.SwapError) as caught:
                raise errors.Unlike(apart=thing)
            self.assertIs(caught.exception.apart, thing)
            self.assertIs(copy.copy(caught.exception).apart, thing)
            self.assertIsInstance(str(caught.exception), str)

    def test_is_made_of_just_one_thing(self):
        for things in ((), (1, 2)):
            with self.assertRaises(TypeError):
                errors.Unlike(*things)


if __name__ == "__main__":
    unittest.main()
