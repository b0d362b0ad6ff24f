"""Tests of forms and alike kinds: promises [3], [5], [6], and [2] and its bounds for
kindswap/forms.py."""

import copy
import time
import unittest

from kindswap import forms
from kindswap.errors import NoForm, NoKind
from kindswap.forms import alike, form, kind_of
from kindswap.kinds import is_kind, kind_text, read_kind
from samples import (A, ALIKE_ROWS, B, C, D, STRAYS, UNIT, Loud, Yes, both, branching, deep_kinds,
                     func, no_kinds_at_any_depth, small_kinds, wide_kinds)
from slow import count


def plain(*numbers):
    """The factors of so many bases, in this order."""
    return tuple(((), n) for n in numbers)


# Texts of kinds, with their forms.
FORMS = [
    ("a", [((), 0)]), ("b", [((), 1)]), ("h", [((), 7)]), ("1", []),
    ("(1*1)", []), ("(1*(1*1))", []), ("(a*1)", [((), 0)]), ("(1*a)", [((), 0)]),
    ("(a*b)", [((), 0), ((), 1)]), ("(b*a)", [((), 0), ((), 1)]), ("(a*a)", [((), 0), ((), 0)]),
    ("((c*a)*(a*b))", [((), 0), ((), 0), ((), 1), ((), 2)]),
    ("(a>b)", [(plain(0), 1)]), ("(b>a)", [(plain(1), 0)]), ("(a>a)", [(plain(0), 0)]),
    ("(a>1)", []), ("(1>a)", [((), 0)]), ("(1>1)", []), ("((a>b)>1)", []), ("((a>1)>b)", [((), 1)]),
    ("((a>1)*b)", [((), 1)]), ("(a>(b>1))", []), ("(a>(1*b))", [(plain(0), 1)]),
    ("(a>(b>c))", [(plain(0, 1), 2)]), ("(b>(a>c))", [(plain(0, 1), 2)]),
    ("((a*b)>c)", [(plain(0, 1), 2)]), ("((b*a)>c)", [(plain(0, 1), 2)]),
    ("(a>(a>c))", [(plain(0, 0), 2)]), ("(c>((b*a)>(d>a)))", [(plain(0, 1, 2, 3), 0)]),
    ("(a>(b*c))", [(plain(0), 1), (plain(0), 2)]), ("(a>(c*b))", [(plain(0), 1), (plain(0), 2)]),
    ("(a>(b*b))", [(plain(0), 1), (plain(0), 1)]),
    ("((a*b)>(c*d))", [(plain(0, 1), 2), (plain(0, 1), 3)]),
    ("((a>b)*c)", [((), 2), (plain(0), 1)]), ("((a>b)*(a>b))", [(plain(0), 1), (plain(0), 1)]),
    ("((b>a)*(a>b))", [(plain(0), 1), (plain(1), 0)]),
    ("((a>b)>c)", [(((plain(0), 1),), 2)]), ("(((a>b)>c)>d)", [(((((plain(0), 1),), 2),), 3)]),
    ("((a>b)>(c>d))", [((((), 2), (plain(0), 1)), 3)]),
    ("(c>((a>b)>d))", [((((), 2), (plain(0), 1)), 3)]),
    ("((a>(b*c))>d)", [(((plain(0), 1), (plain(0), 2)), 3)]),
    ("((a>(b*c))>(d*(a>e)))",
     [((((), 0), (plain(0), 1), (plain(0), 2)), 4), (((plain(0), 1), (plain(0), 2)), 3)]),
    ("((h*(a>1))>((1>g)*(h>1)))", [(plain(7), 6)]),
    ("(b>((a>c)*(a*(c>a))))", [(plain(0, 1), 2), (plain(1), 0), (plain(1, 2), 0)]),
]

# Forms, with the texts of the kinds that they tell.
KINDS = [
    ([], "1"), ([((), 0)], "a"), ([((), 7)], "h"), ([((), 0), ((), 0)], "(a*a)"),
    ([((), 0), ((), 1)], "(a*b)"), ([((), 0), ((), 1), ((), 2)], "(a*(b*c))"),
    ([((), 0), ((), 1), ((), 2), ((), 3)], "(a*(b*(c*d)))"),
    ([(plain(0), 1)], "(a>b)"), ([(plain(0, 1), 2)], "((a*b)>c)"),
    ([(plain(0, 1, 2), 3)], "((a*(b*c))>d)"), ([((), 2), (plain(0), 1)], "(c*(a>b))"),
    ([(plain(0), 1), (plain(0), 1), (plain(1), 0)], "((a>b)*((a>b)*(b>a)))"),
    ([(((plain(0), 1),), 2)], "((a>b)>c)"), ([((((), 2), (plain(0), 1)), 3)], "((c*(a>b))>d)"),
]

# No factors; and so no forms, if one stands in a list or among what a factor wants.
NO_FACTORS = STRAYS + [
    (), "", "a", "ab", ((),), (0,), (0, ()), ((), 0, 0), ((), 0, ()), ((), 8), ((), 9), ((), -1),
    ((), 10 ** 59), ((), True), ((), False), ((), None), ((), "0"), ((), "a"), ((), 0.0), ((), ()),
    ((), (0,)), ((), [0]), ((), {}), ([], 0), (None, 0), (0, 0), ("", 0), ({}, 0), (True, 0),
    [(), 0], [[], 0], ("a", 0), (Loud(), 0), (Yes(), 0), ((), Loud()), ((), Yes()), (set(), 0),
    A, UNIT, both(A, B), func(A, B), ([((), 0)], 1), ("base", 0), (((), 0), 1), ((0,), 1),
    (((),), 1), ((A,), 1), ((None,), 1), (plain(1, 0), 2), (((plain(0), 1), ((), 2)), 3),
    (((plain(1), 0), (plain(0), 1)), 2), ((((), 1), ((), 0), ((), 1)), 2), (plain(8), 0),
    (plain(-1), 0), ((((), True),), 0), ((((), False),), 0), ([], 1), ((((), 0), None), 1),
    ((None, ((), 0)), 1), ((((), 0), ((), 1), ((), 8)), 1), ((((), 0, 0),), 1),
]

# No forms though each thing in them is a factor; and none however they are put.
NO_FORMS = STRAYS + [
    (), "", "a", "1", {}, A, UNIT, both(A, B), plain(0), plain(0, 1), ((), 0), (((), 0),), [()],
    [[]], [((), 1), ((), 0)], [((), 0), ((), 2), ((), 1)], [((), 1), ((), 0), ((), 1)],
    [(plain(0), 1), ((), 2)], [(plain(1), 0), (plain(0), 1)], [(plain(0), 1), (plain(0), 0)],
    [(plain(0, 1), 0), (plain(0), 0)], [(plain(0, 0), 0), (plain(0), 7)],
    [((), 0), None], [None, ((), 0)], [((), 0), [((), 1)]], [[((), 0)]], {((), 0)},
    {((), 0): True}, [((), 0), ((), 1), ((), 8)], [((), -1), ((), 0)],
]


def hidden_in_forms(thing):
    """Things made like forms, but for the thing that stands somewhere as a factor."""
    yield [thing]
    yield [((), 0), thing]
    yield [thing, ((), 0)]
    yield [((thing,), 0)]
    yield [((((), 0), thing), 1)]
    yield [((((), 0), (((), 0), (((), 1), thing), 2)), 1)]
    deep = thing
    for k in range(20):
        deep = ((((), 0), deep), k % 8) if k % 2 else ((deep,), k % 8)
    yield [deep]
    yield [((), 0), deep]


def no_forms_at_any_depth():
    yield from NO_FORMS
    for thing in NO_FACTORS:
        yield from hidden_in_forms(thing)


def deep_forms(depth):
    """Forms of so many factors within one another, each factor with one to three wants."""
    for fewer in (0, 1, 2):
        factor = ((), 0)
        for k in range(depth - 1):
            wants = sorted([((), k % 8), ((), (k + 3) % 8)][:fewer] + [factor])
            factor = (tuple(wants), k % 8)
        yield [factor]
        yield sorted([factor, ((), 7), factor, (plain(0, 0), 0)])
    # Equal factors of great depth beside one another, that are not one and the same tuple.
    yield [_chain(depth), _chain(depth)]
    yield [((_chain(depth - 1), _chain(depth - 1)), 3)]


def _chain(depth):
    factor = ((), 1)
    for _ in range(depth - 1):
        factor = ((factor,), 1)
    return factor


class TestInterface(unittest.TestCase):
    def test_each_function_is_defined_in_the_file(self):
        for name in ("form", "kind_of", "alike"):
            self.assertEqual(getattr(forms, name).__module__, "kindswap.forms")

    def test_arguments_are_told_by_place_and_by_name(self):
        self.assertEqual(form(kind=both(B, A)), [((), 0), ((), 1)])
        self.assertEqual(kind_of(form=[((), 0), ((), 1)]), both(A, B))
        self.assertIs(alike(one=both(B, A), other=both(A, B)), True)
        self.assertIs(alike(other=A, one=B), False)
        for call in (lambda: form(kind=None), lambda: alike(one=None, other=A),
                     lambda: alike(one=A, other=None), lambda: alike(A, other=())):
            with self.assertRaises(NoKind):
                call()
        with self.assertRaises(NoForm):
            kind_of(form=None)


class TestForm(unittest.TestCase):
    def test_forms_that_are_written_here(self):
        for text, told in FORMS:
            with self.subTest(text):
                self.assertEqual(form(read_kind(text)), told)

    def test_forms_are_made_as_the_document_says(self):
        def told(kind):
            if kind[0] == "base":
                return [((), kind[1])]
            if kind[0] == "unit":
                return []
            one, other = told(kind[1]), told(kind[2])
            if kind[0] == "both":
                return sorted(one + other)
            return sorted((tuple(sorted(list(wants) + one)), n) for wants, n in other)

        for leaves in (1, 2, 3, 4):
            for kind in small_kinds(leaves, [UNIT, A, B, C] if leaves < 4 else [UNIT, A, B]):
                self.assertEqual(form(kind), told(kind))

    def test_the_form_is_of_lists_tuples_and_whole_numbers(self):
        def check(factor):
            self.assertIs(type(factor), tuple)
            wants, number = factor
            self.assertIs(type(wants), tuple)
            self.assertIs(type(number), int)
            for want in wants:
                check(want)

        for text, _ in FORMS:
            told = form(read_kind(text))
            self.assertIs(type(told), list)
            for factor in told:
                check(factor)

    def test_each_list_is_a_new_one(self):
        for text, told in FORMS:
            kind = read_kind(text)
            first = form(kind)
            second = form(kind)
            self.assertIsNot(first, second)
            first.append("more")
            first.reverse()
            self.assertEqual(second, told)
            self.assertEqual(form(kind), told)
            second.clear()
            self.assertEqual(form(kind), told)
            self.assertEqual(form(kind_of(told)), told)

    def test_refuses_what_is_no_kind(self):
        for at, thing in enumerate(no_kinds_at_any_depth()):
            with self.subTest(at):
                with self.assertRaises(NoKind) as caught:
                    form(thing)
                self.assertIs(type(caught.exception), NoKind)


class TestKindOf(unittest.TestCase):
    def test_kinds_that_are_written_here(self):
        for told, text in KINDS:
            with self.subTest(text):
                self.assertEqual(kind_text(kind_of(told)), text)
                self.assertEqual(kind_of(told), read_kind(text))

    def test_the_form_of_the_kind_is_the_form(self):
        for told in [told for told, _ in KINDS] + [told for _, told in FORMS]:
            kind = kind_of(told)
            self.assertIs(is_kind(kind), True)
            self.assertEqual(form(kind), told)

    def test_the_kind_is_alike_to_those_of_the_form(self):
        for leaves in (1, 2, 3):
            for kind in small_kinds(leaves, [UNIT, A, B, C]):
                self.assertIs(alike(kind_of(form(kind)), kind), True)

    def test_what_is_handed_in_is_unchanged(self):
        for told in [told for told, _ in KINDS] + [[((), 1), ((), 0)], [None]]:
            before = copy.deepcopy(told)
            try:
                kind = kind_of(told)
                told.append("more")
                self.assertEqual(kind_of(before), kind)
                told.pop()
            except NoForm:
                pass
            self.assertEqual(told, before)

    def test_the_same_is_told_of_an_equal_form_when_the_first_is_changed(self):
        for told, text in KINDS:
            first = list(told)
            kind_of(first)
            first.insert(0, None)
            with self.assertRaises(NoForm):
                kind_of(first)
            self.assertEqual(kind_text(kind_of(list(told))), text)

    def test_refuses_what_is_no_form(self):
        for at, thing in enumerate(no_forms_at_any_depth()):
            with self.subTest(at):
                with self.assertRaises(NoForm) as caught:
                    kind_of(thing)
                self.assertIs(type(caught.exception), NoForm)

    def test_refuses_each_form_turned_round_or_as_a_tuple(self):
        for told, _ in KINDS:
            with self.assertRaises(NoForm):
                kind_of(tuple(told))
            if told[::-1] != told:
                with self.assertRaises(NoForm):
                    kind_of(told[::-1])


class TestAlike(unittest.TestCase):
    def test_alike_ones_and_unlike_ones_either_way_round(self):
        for at, row in enumerate(ALIKE_ROWS):
            for other_at, other_row in enumerate(ALIKE_ROWS):
                for one in row:
                    for other in other_row:
                        with self.subTest(one=one, other=other):
                            told = alike(read_kind(one), read_kind(other))
                            self.assertIs(told, at == other_at)

    def test_alike_just_where_the_numbers_of_worths_are_the_same(self):
        # Sizes by which all unlike kinds so small have unlike many worths.
        rows = [(2, 3), (3, 2), (5, 7), (2, 2), (7, 5), (1, 3), (3, 1)]
        kinds = [kind for leaves in (1, 2, 3) for kind in small_kinds(leaves, [UNIT, A, B])]
        counts = [[count(kind, sizes) for sizes in rows] for kind in kinds]
        for one, many in zip(kinds, counts):
            for other, other_many in zip(kinds, counts):
                self.assertIs(alike(one, other), many == other_many, (one, other))

    def test_alike_ones_have_the_same_form_and_unlike_ones_not(self):
        kinds = [kind for leaves in (1, 2, 3) for kind in small_kinds(leaves, [UNIT, A])]
        for one in kinds:
            for other in kinds:
                self.assertEqual(alike(one, other), form(one) == form(other))

    def test_refuses_what_is_no_kind(self):
        for at, thing in enumerate(no_kinds_at_any_depth()):
            with self.subTest(at):
                for one, other in ((thing, A), (A, thing), (thing, thing), (UNIT, thing),
                                   (thing, None), ([], thing)):
                    with self.assertRaises(NoKind) as caught:
                        alike(one, other)
                    self.assertIs(type(caught.exception), NoKind)


class TestBounds(unittest.TestCase):
    def check_kind(self, kind):
        before = kind_text(kind)
        told = form(kind)
        plain_kind = kind_of(told)
        self.assertEqual(form(plain_kind), told)
        self.assertIs(alike(kind, plain_kind), True)
        self.assertIs(alike(plain_kind, kind), True)
        self.assertIs(alike(kind, both(D, kind)), False)
        self.assertEqual(read_kind(kind_text(plain_kind)), plain_kind)
        self.assertEqual(kind_text(kind), before)

    def test_deep_kinds(self):
        for kind in deep_kinds(100):
            self.check_kind(kind)

    def test_deep_forms(self):
        for told in deep_forms(100):
            kind = kind_of(told)
            self.assertEqual(form(kind), told)
            self.assertIs(alike(kind, kind_of(list(told))), True)
            self.assertIs(alike(kind, both(kind, A)), False)
            self.assertEqual(read_kind(kind_text(kind)), kind)

    def test_no_forms_deep_within(self):
        for thing in (None, ((), 8), ((), True), [(), 0], ([], 0), (plain(1, 0), 0), ()):
            deep = thing
            for _ in range(98):
                deep = ((deep,), 0)
            with self.assertRaises(NoForm):
                kind_of([deep])
            with self.assertRaises(NoForm):
                kind_of([((), 0), deep])

    def test_wide_kinds_in_a_short_time(self):
        began = time.process_time()
        for kind in wide_kinds():
            self.check_kind(kind)
        # A few seconds are enough, so a minute tells of something that grows far too fast.
        self.assertLess(time.process_time() - began, 60)

    def test_large_forms_are_told_apart(self):
        one = func(branching(3, 9), both(A, both(B, C)))
        other = func(branching(3, 9), both(A, both(B, D)))
        self.assertIs(alike(one, one), True)
        self.assertIs(alike(one, other), False)


if __name__ == "__main__":
    unittest.main()
