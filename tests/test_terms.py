"""Tests of the kinds of terms: promise [10], and [2] and its bounds for term_kind of
kindswap/terms.py."""

import copy
import time
import unittest

from kindswap import terms
from kindswap.errors import NoKind, NoTerm
from kindswap.kinds import is_kind, read_kind
from kindswap.terms import term_kind
from samples import (A, B, C, D, NO_KINDS, STRAYS, TUPLES_NO_KIND, UNIT, Refusals, both, deep_kinds, func,
                     hidden_in_kinds, small_kinds, wide_kinds)
from term_samples import (G0, G1, G2, G3, LEAVE, NOTHING, SWAP, deep_terms, do, first,
                          given, make, moved, no_terms_at_any_depth, parts_of, second, wide_terms)

# Terms, with texts of the kinds given and of their own.
KINDS = [
    (NOTHING, [], "1"), (NOTHING, ["a"], "1"), (G0, ["a"], "a"), (G0, ["a", "b"], "a"), (G1, ["a", "b"], "b"),
    (G2, ["a", "b", "(c>d)"], "(c>d)"), (G0, ["(a*(b>1))"], "(a*(b>1))"), (both(G0, G1), ["a", "b"], "(a*b)"),
    (both(G1, G0), ["a", "b"], "(b*a)"), (both(G0, G0), ["a"], "(a*a)"), (both(NOTHING, G0), ["a"], "(1*a)"),
    (first(G0), ["(a*b)"], "a"), (second(G0), ["(a*b)"], "b"), (first(both(G0, G1)), ["a", "b"], "a"),
    (second(both(G0, G1)), ["a", "b"], "b"), (first(second(G0)), ["(a*((b*c)*d))"], "(b*c)"),
    (do(G0, G1), ["(a>b)", "a"], "b"), (do(G1, G0), ["a", "(a>b)"], "b"), (do(G0, NOTHING), ["(1>c)"], "c"),
    (do(do(G0, G1), G2), ["(a>(b>c))", "a", "b"], "c"), (do(G0, both(G1, G2)), ["((a*b)>c)", "a", "b"], "c"),
    (do(G0, G1), ["((a>b)>(b>a))", "(a>b)"], "(b>a)"), (do(first(G0), second(G0)), ["((a>b)*a)"], "b"),
    (LEAVE, [], "(a>a)"), (LEAVE, ["b"], "(a>b)"), (make(A, G1), ["b"], "(a>a)"), (make(A, G1), ["b", "c"], "(a>c)"),
    (make(A, G2), ["b", "c"], "(a>a)"), (make(A, NOTHING), [], "(a>1)"), (SWAP, [], "((a*b)>(b*a))"),
    (make(UNIT, G0), [], "(1>1)"), (make(func(A, B), G0), [], "((a>b)>(a>b))"),
    (make(A, make(B, G0)), [], "(a>(b>a))"), (make(A, make(B, G1)), [], "(a>(b>b))"),
    (make(A, make(B, G0)), ["c"], "(a>(b>c))"), (make(A, make(B, G1)), ["c"], "(a>(b>a))"),
    (make(A, make(B, G2)), ["c"], "(a>(b>b))"), (make(A, make(B, G2)), ["c", "d"], "(a>(b>a))"),
    (make(A, make(B, G3)), ["c", "d"], "(a>(b>b))"), (make(A, make(B, G1)), ["c", "d"], "(a>(b>d))"),
    (make(func(A, B), make(A, do(G0, G1))), [], "((a>b)>(a>b))"),
    (make(A, make(func(A, B), do(G1, G0))), [], "(a>((a>b)>b))"), (do(LEAVE, G0), ["a"], "a"),
    (do(make(A, G1), G0), ["a"], "a"), (do(make(B, G0), G1), ["a", "b"], "a"), (do(make(B, G2), G1), ["a", "b"], "b"),
    (both(make(A, G1), make(B, G1)), ["c"], "((a>a)*(b>b))"), (do(make(A, make(B, G1)), G0), ["a"], "(b>a)"),
    (do(do(make(A, make(B, G2)), G0), G1), ["a", "b"], "a"),
    (do(make(func(A, A), do(G1, G0)), make(A, G1)), ["a"], "a"),
    (make(A, both(make(B, G1), make(C, G0))), [], "(a>((b>b)*(c>a)))"),
    (make(A, do(make(A, G1), do(make(A, G0), G0))), [], "(a>a)"),
    (make(both(A, both(B, C)), both(both(first(G0), first(second(G0))), second(second(G0)))), [],
     "((a*(b*c))>((a*b)*c))"),
    (make(func(both(A, B), C), make(A, make(B, do(G0, both(G1, G2))))), [], "(((a*b)>c)>(a>(b>c)))"),
]


class TestInterface(unittest.TestCase):
    def test_each_function_is_defined_in_the_file(self):
        for name in ("term_kind", "done"):
            self.assertEqual(getattr(terms, name).__module__, "kindswap.terms")

    def test_arguments_are_told_by_name(self):
        self.assertEqual(term_kind(given=[B], term=LEAVE), func(A, B))
        self.assertEqual(term_kind(term=LEAVE, given=[]), func(A, A))
        self.assertRaises(NoKind, lambda: term_kind(given=None, term=LEAVE))
        self.assertRaises(NoTerm, lambda: term_kind(given=[], term=None))


class TestTermKind(Refusals):
    def test_kinds_that_are_written_here(self):
        for at, (term, texts, text) in enumerate(KINDS):
            with self.subTest(at):
                told = term_kind(term, [read_kind(one) for one in texts])
                self.assertEqual(told, read_kind(text))
                self.assertIs(is_kind(told), True)

    def test_one_and_several_given_in_front(self):
        for term, texts, text in KINDS:
            kinds = [read_kind(one) for one in texts]
            for front in ([D], [D, UNIT], [both(D, D), func(A, B), A]):
                self.assertEqual(term_kind(moved(term, len(front)), front + kinds), read_kind(text))

    def test_terms_within_one_another(self):
        for term, texts, text in KINDS:
            kinds = [read_kind(one) for one in texts]
            kind = read_kind(text)
            for other, other_texts, other_text in KINDS:
                if other_texts == texts:
                    self.assertEqual(term_kind(both(term, other), kinds), both(kind, read_kind(other_text)))
                    self.assertEqual(term_kind(first(both(term, other)), kinds), kind)
                    self.assertEqual(term_kind(second(both(term, other)), kinds), read_kind(other_text))
                    handed = do(make(read_kind(other_text), given(len(kinds))), other)
                    self.assertEqual(term_kind(handed, kinds), read_kind(other_text))

    def test_all_that_is_given_of_all_small_kinds(self):
        for kind in small_kinds(3, [UNIT, A, B]):
            self.assertEqual(term_kind(G1, [C, kind, C]), kind)
            self.assertEqual(term_kind(make(kind, G0), []), func(kind, kind))
            self.assertEqual(term_kind(do(G0, G1), [func(kind, C), kind]), C)
            self.assertEqual(term_kind(do(G0, G1), [func(C, kind), C]), kind)
            for wrong in (both(kind, kind), func(kind, kind), both(kind, UNIT), func(UNIT, kind)):
                self.assert_refused(NoTerm, term_kind, do(G0, G1), [func(kind, C), wrong])
                self.assert_refused(NoTerm, term_kind, do(G0, G1), [func(wrong, C), kind])
            if kind[0] == "both":
                self.assertEqual(term_kind(first(G0), [kind]), kind[1])
                self.assertEqual(term_kind(second(G0), [kind]), kind[2])
            else:
                self.assert_refused(NoTerm, term_kind, first(G0), [kind])
                self.assert_refused(NoTerm, term_kind, second(G0), [kind])
            if kind[0] == "from":
                self.assertEqual(term_kind(do(G0, G1), [kind, kind[1]]), kind[2])
            else:
                self.assert_refused(NoTerm, term_kind, do(G0, G1), [kind, kind[1]])

    def test_alike_kinds_are_not_the_same(self):
        for one, other in ((both(A, B), both(B, A)), (both(A, UNIT), A), (func(UNIT, A), A), (func(A, UNIT), UNIT),
                           (func(both(A, B), C), func(A, func(B, C)))):
            self.assert_refused(NoTerm, term_kind, do(make(one, NOTHING), G0), [other])
            self.assert_refused(NoTerm, term_kind, do(make(other, NOTHING), G0), [one])
            self.assertEqual(term_kind(do(make(one, NOTHING), G0), [one]), UNIT)

    def test_what_is_given_is_unchanged_and_looked_at_anew(self):
        kinds = [A, both(A, B)]
        self.assertEqual(term_kind(make(C, both(first(G1), G2)), kinds), func(C, both(A, C)))
        self.assert_refused(NoTerm, term_kind, make(C, first(G0)), kinds)
        self.assertEqual(kinds, [A, both(A, B)])
        kinds[1] = both(B, A)
        self.assertEqual(term_kind(make(C, both(first(G1), G2)), kinds), func(C, both(B, C)))
        kinds.pop()
        self.assert_refused(NoTerm, term_kind, G1, kinds)
        kinds.append(None)
        self.assert_refused(NoKind, term_kind, G0, kinds)
        kinds[1] = D
        self.assertEqual(term_kind(G1, kinds), D)


class TestNoTerm(Refusals):
    def test_what_is_no_term_or_has_no_kind_at_any_depth(self):
        for at, thing in enumerate(no_terms_at_any_depth()):
            with self.subTest(at):
                for kinds in ([], [A], [UNIT, both(A, B), func(UNIT, UNIT)]):
                    self.assert_refused(NoTerm, term_kind, thing, kinds)

    def test_what_is_not_given(self):
        for many in range(4):
            kinds = [A, B, C][:many]
            for k in range(6):
                for deep in range(3):
                    term, kind = given(k), (kinds + [D] * deep + [None] * 6)[k]
                    for _ in range(deep):
                        term, kind = make(D, term), kind and func(D, kind)
                    if kind is None:
                        self.assert_refused(NoTerm, term_kind, term, kinds)
                    else:
                        self.assertEqual(term_kind(term, kinds), kind)

    def test_what_is_given_within_is_not_given_beside(self):
        for term in (both(LEAVE, G0), both(G0, LEAVE), do(LEAVE, G0), do(make(func(A, A), NOTHING), make(A, G1)),
                     make(A, both(make(A, G1), G1)), make(A, do(make(A, G0), G1)), first(both(LEAVE, G0))):
            self.assert_refused(NoTerm, term_kind, term, [])

    def test_one_part_more_or_fewer_or_a_list(self):
        for term, texts, _ in KINDS:
            kinds = [read_kind(one) for one in texts]
            for wrong in (term[:-1], term + (G0,), term + (None,), (term,), term[1:], list(term), (),
                          ("other",) + term[1:], (term[0].upper(),) + term[1:], (None,) + term[1:]):
                self.assert_refused(NoTerm, term_kind, wrong, kinds)
                self.assert_refused(NoTerm, term_kind, make(A, both(wrong, NOTHING)), kinds)

    def test_a_made_function_whose_kind_is_none(self):
        for thing in NO_KINDS:
            for wrong in hidden_in_kinds(thing):
                for term in (make(wrong, NOTHING), make(A, make(wrong, G0)), do(make(wrong, G0), NOTHING)):
                    self.assert_refused(NoTerm, term_kind, term, [])


class TestNoKind(Refusals):
    NO_LISTS = STRAYS + TUPLES_NO_KIND + [(), (A,), (A, B), A, UNIT, "", "a", "ab", {}, {0: A}, {"a": A}, iter([A])]

    def test_what_is_no_list_of_kinds_ahead_of_all_else(self):
        for at, kinds in enumerate(self.NO_LISTS):
            with self.subTest(at):
                for term in (NOTHING, G0, LEAVE, None, [], {}, first(NOTHING), make(None, G0)):
                    self.assert_refused(NoKind, term_kind, term, kinds)

    def test_a_list_in_which_something_is_no_kind(self):
        for at, thing in enumerate(NO_KINDS):
            with self.subTest(at):
                for wrong in hidden_in_kinds(thing):
                    for kinds in ([wrong], [A, wrong], [wrong, A], [A, wrong, B]):
                        for term in (NOTHING, G0, LEAVE, None):
                            self.assert_refused(NoKind, term_kind, term, kinds)
                for kinds in ([thing], [A, thing], [thing, A], [[thing]], [[A]]):
                    self.assert_refused(NoKind, term_kind, G0, kinds)

    def test_what_is_handed_in_is_unchanged(self):
        for things in ([[], {}], [("both", [NOTHING], NOTHING), [A]], [NOTHING, [A, [B]]], [SWAP, [A]]):
            before = copy.deepcopy(things)
            try:
                term_kind(*things)
            except (NoKind, NoTerm):
                pass
            self.assertEqual(things, before)


class TestBounds(Refusals):
    def test_deep_and_wide_terms(self):
        began = time.process_time()
        for term, kinds, kind in list(deep_terms()) + list(wide_terms()):
            self.assertLessEqual(parts_of(term), 2000)
            self.assertEqual(term_kind(term, kinds), kind)
            self.assertEqual(term_kind(both(term, NOTHING), kinds), both(kind, UNIT))
            for wrong in (first(NOTHING), None, G3 + (0,), given(10 ** 59)):
                self.assert_refused(NoTerm, term_kind, both(term, wrong), kinds)
        self.assertLess(time.process_time() - began, 30)

    def test_deep_and_wide_kinds(self):
        began = time.process_time()
        for kind in list(deep_kinds(100)) + list(wide_kinds()):
            self.assertEqual(term_kind(make(kind, both(G0, G0)), []), func(kind, both(kind, kind)))
            self.assertEqual(term_kind(do(G0, G1), [func(kind, both(kind, A)), kind]), both(kind, A))
            self.assertEqual(term_kind(do(make(kind, G1), G0), [kind]), kind)
            self.assert_refused(NoTerm, term_kind, do(make(both(kind, A), G0), G0), [kind])
        self.assertLess(time.process_time() - began, 30)


if __name__ == "__main__":
    unittest.main()
