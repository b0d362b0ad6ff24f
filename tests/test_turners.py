"""Tests of turners: promise [13], [3] so far as it speaks of them, and [2] and its bounds for
kindswap/turners.py."""

import copy
import itertools
import random
import time
import unittest

from grown import grown, is_plain, turned_anywhere, turned_often
from kindswap import turners
from kindswap.counts import apart_fault, rest
from kindswap.errors import NoKind, TooMany, Unlike
from kindswap.forms import alike, form, kind_of
from kindswap.kinds import kind_text, read_kind
from kindswap.plains import plain, same
from kindswap.terms import done, term_kind
from kindswap.turners import turn_fault, turner
from kindswap.worths import worths
from samples import (A, ALIKE_ROWS, B, C, D, STRAYS, TUPLES_NO_KIND, UNIT, Refusals, both, deep_kinds, func,
                     no_kinds_at_any_depth, small_kinds, wide_kinds)
from term_samples import (G0, G1, G2, LEAVE, NO_TERMS, NOTHING, SWAP, do, first, make, moved, parts_of, second)

ONES = [1] * 8
SIZES = [2, 3, 1, 2, 1, 1, 1, 1]
AA, PAIR = func(A, A), both(A, B)

# Texts of two alike kinds, and the turner from the one to the other.
TURNERS = [
    ("a", "a", make(A, G0)), ("1", "1", make(UNIT, NOTHING)), ("1", "(a>1)", make(UNIT, make(A, NOTHING))),
    ("(a>1)", "1", make(func(A, UNIT), NOTHING)), ("(a*1)", "a", make(both(A, UNIT), first(G0))),
    ("a", "(a*1)", make(A, both(G0, NOTHING))), ("(1*a)", "a", make(both(UNIT, A), second(G0))),
    ("a", "(1>a)", make(A, make(UNIT, G0))), ("(1>a)", "a", make(func(UNIT, A), do(G0, NOTHING))),
    ("(a*b)", "(b*a)", SWAP), ("(a*b)", "(a*b)", make(PAIR, both(first(G0), second(G0)))),
    ("(a*(b*c))", "((a*b)*c)", make(both(A, both(B, C)), both(both(first(G0), first(second(G0))), second(second(G0))))),
    ("((a*b)*c)", "(a*(b*c))", make(both(PAIR, C), both(first(first(G0)), both(second(first(G0)), second(G0))))),
    ("((a*b)>c)", "(a>(b>c))", make(func(PAIR, C), make(A, make(B, do(G0, both(G1, G2)))))),
    ("(a>(b>c))", "((a*b)>c)", make(func(A, func(B, C)), make(PAIR, do(do(G0, first(G1)), second(G1))))),
    ("(a>(b>c))", "(b>(a>c))", make(func(A, func(B, C)), make(B, make(A, do(do(G0, G2), G1))))),
    ("(a>(b*c))", "((a>b)*(a>c))", make(func(A, both(B, C)), both(make(A, first(do(G0, G1))),
                                                                 make(A, second(do(G0, G1)))))),
    ("((a>b)*(a>c))", "(a>(b*c))", make(both(func(A, B), func(A, C)), make(A, both(do(first(G0), G1),
                                                                                 do(second(G0), G1))))),
    ("((a*b)>c)", "((b*a)>c)", make(func(PAIR, C), make(both(B, A), do(G0, both(second(G1), first(G1)))))),
    ("((a>(b>c))>d)", "((b>(a>c))>d)",
     make(func(func(A, func(B, C)), D), make(func(B, func(A, C)), do(G0, make(A, make(B, do(do(G1, ("given", 3)), G2))))
                                             ))),
]

# Kinds in which the same factors stand several times, so that there are several ways to turn them.
LIKE_PARTS = ["(a*a)", "(a*(a*a))", "((a*a)*a)", "(a>(a>a))", "((a*a)>a)", "((a*a)>(a*a))", "(a>(a>(a>b)))",
              "((a>b)*(a>b))", "(a>(b*b))", "((a>a)>((a>a)>a))", "(((a>a)*(a>a))>a)", "((a*a)*(b*b))",
              "((a>(a>b))*((a*a)>b))", "(((a>(a>a))*a)>a)", "((a>(a*a))>b)", "((a*a)>((a>b)*(a>b)))"]


class TestInterface(unittest.TestCase):
    def test_each_function_is_defined_in_the_file(self):
        for name in ("turner", "turn_fault"):
            self.assertEqual(getattr(turners, name).__module__, "kindswap.turners")

    def test_arguments_are_told_by_name(self):
        self.assertEqual(turner(other=both(B, A), one=PAIR), SWAP)
        back = turner(one=both(B, A), other=PAIR)
        self.assertIsNone(turn_fault(back=back, there=SWAP, other=both(B, A), one=PAIR))
        self.assertEqual(turn_fault(there=back, back=SWAP, other=both(B, A), one=PAIR), ("kind", 0))
        self.assertEqual(turn_fault(back=SWAP, one=PAIR, there=SWAP, other=both(B, A)), ("kind", 1))
        self.assertRaises(NoKind, lambda: turner(other=None, one=A))
        self.assertRaises(NoKind, lambda: turn_fault(there=None, back=None, other=None, one=A))
        self.assertRaises(Unlike, lambda: turner(other=B, one=A))


class Turns(Refusals):
    def check(self, one, other):
        """Whether the turners of the two alike kinds are so as they are promised."""
        there, back = turner(one, other), turner(other, one)
        for term, takes, gives in ((there, one, other), (back, other, one)):
            self.assertEqual(term_kind(term, []), func(takes, gives))
            self.assertTrue(is_plain(term, func(takes, gives), []))
            self.assertEqual(plain(term, []), term)
            self.assertEqual(turner(takes, gives), term)
        for kind, first_one, then in ((one, there, back), (other, back, there)):
            round_trip = make(kind, do(moved(then, 1), do(moved(first_one, 1), G0)))
            self.assertIs(same(round_trip, make(kind, G0), []), True)
            self.assertEqual(plain(round_trip, []), turner(kind, kind))
        self.assertIsNone(turn_fault(one, other, there, back))
        self.assertIsNone(turn_fault(other, one, back, there))
        return there, back

    def check_on_worths(self, one, other, rows=(SIZES, ONES, [1, 2, 2] + ONES[3:], [3, 2] + ONES[2:])):
        """Whether the turners undo one another on all worths, each one being told just once."""
        there, back = self.check(one, other)
        checked = 0
        for sizes in rows:
            try:
                all_one, all_other = worths(one, sizes), worths(other, sizes)
            except TooMany:
                continue
            if len(all_one) > 300:
                continue
            told = [done(there, sizes, worth) for worth in all_one]
            self.assertEqual(sorted(told), all_other)
            self.assertEqual([done(back, sizes, worth) for worth in told], all_one)
            checked += 1
        return checked


class TestTurner(Turns):
    def test_turners_that_are_written_here(self):
        for one, other, told in TURNERS:
            with self.subTest(one=one, other=other):
                self.assertEqual(turner(read_kind(one), read_kind(other)), told)
                self.check_on_worths(read_kind(one), read_kind(other))

    def test_all_alike_kinds_that_are_written_elsewhere(self):
        for row in ALIKE_ROWS:
            for one, other in itertools.product(map(read_kind, row), repeat=2):
                self.assertGreater(self.check_on_worths(one, other), 0)

    def test_all_small_kinds_that_are_alike(self):
        groups = {}
        for leaves in (1, 2, 3):
            for kind in small_kinds(leaves, [UNIT, A, B] if leaves < 3 else [UNIT, A]):
                groups.setdefault(str(form(kind)), []).append(kind)
        for group in groups.values():
            for one, other in itertools.product(group, group[:4]):
                self.check_on_worths(one, other, (SIZES,))

    def test_kinds_with_like_parts(self):
        for text in LIKE_PARTS:
            kind = read_kind(text)
            with self.subTest(text):
                self.check_on_worths(kind, kind)
                self.assertEqual(turner(kind, kind), plain(make(kind, G0), []))
                for other in set(turned_anywhere(kind)):
                    self.check_on_worths(kind, other, (SIZES, ONES))

    def test_one_equation_at_any_depth(self):
        texts = ["((a*b)>(c*1))", "(((a*b)>c)>a)", "((a>(b>c))>(1>b))", "((a>(b*c))>(a>1))", "(((a>b)*(a>c))>b)",
                 "((a*(b*(1>c)))*((a*1)*b))", "((((a*b)>b)>(1>a))>b)", "(((a>(1*b))>(a*b))>(a*1))"]
        for kind in map(read_kind, texts):
            for other in set(turned_anywhere(kind)):
                with self.subTest(one=kind_text(kind), other=kind_text(other)):
                    self.check_on_worths(kind, other, (SIZES, ONES))

    def test_several_equations_one_behind_the_other(self):
        chance = random.Random(13)
        for text in LIKE_PARTS + [one for one, _, _ in TURNERS] + [row[0] for row in ALIKE_ROWS]:
            for many in (2, 4, 8, 12):
                one = read_kind(text)
                other = turned_often(one, chance, many)
                one = turned_often(one, chance, many // 2)
                with self.subTest(one=kind_text(one), other=kind_text(other)):
                    self.check_on_worths(one, other, (SIZES, ONES))

    def test_to_the_kind_of_the_form(self):
        for leaves in (1, 2, 3):
            for kind in small_kinds(leaves, [UNIT, A, B]):
                self.check(kind, kind_of(form(kind)))

    def test_one_behind_the_other_through_a_third_one(self):
        for row in ALIKE_ROWS:
            for one, other, third in itertools.permutations(map(read_kind, row[:4]), 3):
                there = make(one, do(moved(turner(third, other), 1), do(moved(turner(one, third), 1), G0)))
                back = make(other, do(moved(turner(third, one), 1), do(moved(turner(other, third), 1), G0)))
                self.assertIsNone(turn_fault(one, other, there, back))
                self.assertIsNone(turn_fault(one, other, plain(there, []), plain(back, [])))


class TestUnlike(Refusals):
    def check(self, one, other):
        for first_one, then in ((one, other), (other, one)):
            with self.assertRaises(Unlike) as caught:
                turner(first_one, then)
            self.assertIs(type(caught.exception), Unlike)
            told = caught.exception.apart
            self.assertIs(type(told), tuple)
            self.assertIsNone(apart_fault(first_one, then, told))
            sizes, by = told
            self.assertNotEqual(rest(one, sizes, by), rest(other, sizes, by))

    def test_unlike_kinds(self):
        for row, other_row in itertools.permutations(ALIKE_ROWS, 2):
            for one, other in itertools.product(row[:2], other_row[:2]):
                self.check(read_kind(one), read_kind(other))

    def test_all_small_kinds(self):
        kinds = small_kinds(1, [UNIT, A, B]) + small_kinds(2, [UNIT, A, B]) + small_kinds(3, [A, B])[::3]
        for one, other in itertools.combinations(kinds, 2):
            if alike(one, other):
                turner(one, other)
            else:
                self.check(one, other)

    def test_the_list_is_a_new_one(self):
        told = []
        for _ in range(3):
            with self.assertRaises(Unlike) as caught:
                turner(PAIR, func(A, B))
            sizes, by = caught.exception.apart
            told.append((list(sizes), by))
            sizes[0] = None
            sizes.clear()
        self.assertEqual(told[0], told[1])
        self.assertEqual(told[0], told[2])


class TestTurnFault(Turns):
    def test_grown_turners(self):
        chance = random.Random(14)
        for one, other, there in TURNERS:
            one, other = read_kind(one), read_kind(other)
            back = turner(other, one)
            for many in (1, 2, 4, 8):
                big, big_back = grown(there, [], chance, many), grown(back, [], chance, many)
                self.assertIsNone(turn_fault(one, other, big, big_back))
                self.assertIsNone(turn_fault(one, other, there, big_back))
                self.assertIsNone(turn_fault(other, one, big_back, big))

    def test_other_terms_that_undo_one_another(self):
        pair = both(A, A)
        leave = make(pair, G0)
        swap = make(pair, both(second(G0), first(G0)))
        self.assertIsNone(turn_fault(pair, pair, leave, leave))
        self.assertIsNone(turn_fault(pair, pair, swap, swap))
        self.assertEqual(turn_fault(pair, pair, swap, leave), ("round", 0))
        self.assertEqual(turn_fault(pair, pair, leave, swap), ("round", 0))
        three = both(A, pair)
        turn = make(three, both(first(second(G0)), both(second(second(G0)), first(G0))))
        again = make(three, both(second(second(G0)), both(first(G0), first(second(G0)))))
        self.assertIsNone(turn_fault(three, three, turn, again))
        self.assertIsNone(turn_fault(three, three, again, turn))
        self.assertEqual(turn_fault(three, three, turn, turn), ("round", 0))
        twice = func(A, func(A, B))
        taken = make(twice, make(A, make(A, do(do(G0, G2), G1))))
        self.assertIsNone(turn_fault(twice, twice, taken, taken))
        self.assertEqual(turn_fault(twice, twice, taken, make(twice, G0)), ("round", 0))
        other_pair = func(A, func(A, both(B, B)))
        both_ways = make(other_pair, make(A, make(A, both(second(do(do(G0, G2), G1)), first(do(do(G0, G2), G1))))))
        self.assertIsNone(turn_fault(other_pair, other_pair, both_ways, both_ways))
        self.assertEqual(turn_fault(pair, three, None, None), ("kind", 0))

    def test_where_there_is_no_term_of_the_kind(self):
        for one, other in ((PAIR, both(B, A)), (A, B), (UNIT, UNIT), (func(A, func(B, C)), func(PAIR, C))):
            there = turner(one, other) if alike(one, other) else make(one, G0)
            wrong = NO_TERMS + STRAYS + TUPLES_NO_KIND + [
                G0, G1, ("given", 1), make(one, G1), make(both(one, UNIT), NOTHING), make(D, G0), both(there, there),
                both(there, NOTHING), do(there, G0), 0, True, (), [], {}, None, "", "term", {0}, NOTHING]
            for at, thing in enumerate(wrong):
                with self.subTest(at):
                    for back in (there, thing, None, []):
                        self.assertEqual(turn_fault(one, other, thing, back), ("kind", 0))
                    if alike(one, other):
                        self.assertEqual(turn_fault(one, other, there, thing), ("kind", 1))

    def test_the_kind_ahead_of_the_round_and_there_ahead_of_back(self):
        other = both(B, A)
        no_turner = make(PAIR, both(second(G0), first(both(first(G0), G0))))
        back = turner(other, PAIR)
        self.assertIsNone(turn_fault(PAIR, other, no_turner, back))
        for wrong in (None, SWAP, G0, make(PAIR, G0), make(other, G0)):
            self.assertEqual(turn_fault(PAIR, other, wrong, wrong), ("kind", 1) if wrong == SWAP else ("kind", 0))
            self.assertEqual(turn_fault(PAIR, other, SWAP, wrong), ("kind", 1))
            self.assertEqual(turn_fault(PAIR, other, wrong, back), None if wrong == SWAP else ("kind", 0))

    def test_alike_kinds_are_not_one_kind(self):
        self.assertEqual(turn_fault(PAIR, both(B, A), make(PAIR, G0), SWAP), ("kind", 0))
        self.assertEqual(turn_fault(PAIR, PAIR, SWAP, SWAP), ("kind", 0))
        self.assertEqual(turn_fault(A, both(A, UNIT), LEAVE, LEAVE), ("kind", 0))
        self.assertEqual(turn_fault(A, A, LEAVE, make(A, both(G0, NOTHING))), ("kind", 1))
        forget = make(func(A, UNIT), NOTHING)
        self.assertEqual(turn_fault(func(A, UNIT), UNIT, forget, make(UNIT, NOTHING)), ("kind", 1))

    def test_where_doing_both_is_not_to_leave_it(self):
        pair = both(A, A)
        double, take = make(A, both(G0, G0)), make(pair, first(G0))
        for part in (first, second):
            taken_twice = make(pair, both(part(G0), part(G0)))
            self.assertEqual(turn_fault(pair, pair, taken_twice, make(pair, G0)), ("round", 0))
            self.assertEqual(turn_fault(pair, pair, make(pair, G0), taken_twice), ("round", 0))
            self.assertEqual(turn_fault(pair, pair, taken_twice, taken_twice), ("round", 0))
            take = make(pair, part(G0))
            self.assertEqual(turn_fault(A, pair, double, take), ("round", 1))
            self.assertEqual(turn_fault(pair, A, take, double), ("round", 0))
        constant = make(A, make(B, G0))
        self.assertEqual(turn_fault(A, func(B, A), constant, make(func(B, A), NOTHING)), ("kind", 1))
        # A function that takes another one gives back what is always the same.
        hand, give = make(func(AA, A), do(G0, leave_within())), make(A, make(AA, G0))
        self.assertEqual(turn_fault(A, func(AA, A), give, hand), ("round", 1))
        self.assertEqual(turn_fault(func(AA, A), A, hand, give), ("round", 0))
        self.assertEqual(turn_fault(UNIT, AA, make(UNIT, leave_within()), make(AA, NOTHING)), ("round", 1))
        self.assertEqual(turn_fault(AA, UNIT, make(AA, NOTHING), make(UNIT, leave_within())), ("round", 0))
        self.assertEqual(turn_fault(AA, AA, make(AA, leave_within()), make(AA, G0)), ("round", 0))
        swapped = make(func(A, func(A, B)), make(A, make(A, do(do(G0, G1), G1))))
        self.assertEqual(turn_fault(func(A, func(A, B)), func(A, func(A, B)), swapped, swapped), ("round", 0))

    def test_unlike_kinds_have_always_a_fault(self):
        for one, other in itertools.permutations([A, B, UNIT, PAIR, AA, both(A, A), func(A, B)], 2):
            for there, back in itertools.product([LEAVE, make(one, NOTHING), SWAP, make(one, make(A, G1))], repeat=2):
                self.assertIsNotNone(turn_fault(one, other, there, back))

    def test_with_the_kinds_exchanged(self):
        for one, other, there in TURNERS:
            one, other = read_kind(one), read_kind(other)
            back = turner(other, one)
            self.assertIsNone(turn_fault(other, one, back, there))
            if one != other:
                self.assertEqual(turn_fault(other, one, there, back), ("kind", 0))
                self.assertEqual(turn_fault(one, other, back, there), ("kind", 0))
                self.assertEqual(turn_fault(one, other, there, there), ("kind", 1))

    def test_what_is_handed_in_is_unchanged(self):
        for things in ([[], {}], [["make", A, G0], [LEAVE]], [("make", A, ["given"]), {0: [1]}], [LEAVE, [[]]]):
            before = copy.deepcopy(things)
            self.assertIn(turn_fault(A, A, *things), (("kind", 0), ("kind", 1)))
            self.assertEqual(things, before)


def leave_within():
    """A function that leaves what it takes, where one thing is given."""
    return make(A, G1)


class TestNoKind(Refusals):
    def test_ahead_of_all_else(self):
        for at, thing in enumerate(no_kinds_at_any_depth()):
            with self.subTest(at):
                for one, other in ((thing, A), (A, thing), (thing, thing), (UNIT, thing), (thing, None)):
                    self.assert_refused(NoKind, turner, one, other)
                    for there, back in ((None, None), (LEAVE, LEAVE), ([], {})):
                        self.assert_refused(NoKind, turn_fault, one, other, there, back)


class TestBounds(Turns):
    def test_deep_and_wide_kinds(self):
        began = time.process_time()
        for kind in list(deep_kinds(99)) + list(wide_kinds()):
            for other in (kind, both(UNIT, kind), func(UNIT, kind)):
                there, back = turner(kind, other), turner(other, kind)
                if parts_of(there) <= 2000:
                    self.check(kind, other)
            with self.assertRaises(Unlike):
                turner(kind, both(kind, D))
            self.assertEqual(turn_fault(kind, both(kind, D), there, back), ("kind", 0))
        self.assertLess(time.process_time() - began, 120)

    def test_thirty_bases_the_other_way_round(self):
        began = time.process_time()
        bases = [("base", k % 8) for k in range(30)]
        one = other = UNIT
        taken = other_taken = A
        for base in bases:
            one, other = both(base, one), both(other, base)
            taken, other_taken = func(base, taken), func(base, other_taken)
        self.check(one, other)
        self.check(func(one, A), func(other, A))
        self.check(taken, func(other, A))
        for base in bases[:4]:
            other_taken = func(base, other_taken)
            taken = func(both(UNIT, base), taken)
        self.check(func(taken, B), func(other_taken, both(B, UNIT)))
        self.assertLess(time.process_time() - began, 60)


if __name__ == "__main__":
    unittest.main()
