"""Tests of numbers of worths: promises [7] and [8], [3] so far as it speaks of them, and [2] and
its bounds for kindswap/counts.py."""

import copy
import itertools
import random
import time
import unittest

from kindswap import counts
from kindswap.counts import apart, apart_fault, many, rest
from kindswap.errors import NoDivisor, NoKind, NoSizes, TooMany
from kindswap.forms import alike, form
from kindswap.kinds import kind_text, read_kind
from samples import (A, ALIKE_ROWS, B, C, D, E, F, G, H, NO_DIVISORS, NO_SIZES, STRAYS, TUPLES_NO_KIND,
                     UNIT, Refusals, base, both, deep_kinds, func, no_kinds_at_any_depth, small_kinds,
                     wide_kinds)
from slow import count, slow_rest

ONES = [1] * 8
SIZES = [2, 3, 1, 4, 10, 40, 39, 999]
MOST = 10 ** 40 - 1

# Texts of kinds, with their numbers of worths by SIZES.
NUMBERS = [
    ("a", 2), ("b", 3), ("c", 1), ("h", 999), ("1", 1), ("(a*b)", 6), ("(b*a)", 6), ("(b*b)", 9),
    ("(a*(b*d))", 24), ("((h*h)*h)", 999 ** 3), ("(a>b)", 9), ("(b>a)", 8), ("(a>a)", 4), ("(b>b)", 27),
    ("(a>1)", 1), ("(h>1)", 1), ("(1>a)", 2), ("(1>h)", 999), ("(1>1)", 1), ("(1*1)", 1), ("(1*a)", 2),
    ("(a*1)", 2), ("(c*c)", 1), ("(c>a)", 2), ("(h>c)", 1), ("(c>c)", 1), ("(a>(b>d))", 4 ** 6),
    ("((a>b)>d)", 4 ** 9), ("((b>a)>d)", 4 ** 8), ("((a*b)>d)", 4 ** 6), ("(a>(b*d))", 144),
    ("((a>b)*(b>a))", 72), ("((a>a)>(b>b))", 27 ** 4), ("(((a>a)>a)>a)", 2 ** 16),
    ("((a>(b>a))>b)", 3 ** 64), ("(h>a)", None), ("((h>a)>1)", 1), ("((h>a)>c)", 1), ("(1>(h>a))", None),
    ("(c>(h>a))", None), ("(((h>a)>1)>b)", 3), ("((a*(h>a))>(1*c))", 1), ("(a*((h>b)>c))", 2),
    ("(c*(h>a))", None), ("((((h>a)>b)>a)>1)", 1), ("(((a>b)>(h>a))>(h>c))", 1),
    # The least number of more than forty figures, and ones near to it.
    ("(f>e)", None), ("(g>e)", 10 ** 39), ("(d*(g>e))", 4 * 10 ** 39), ("((b*b)*(g>e))", 9 * 10 ** 39),
    ("(e*(g>e))", None), ("((g>e)*(1*e))", None), ("((b*d)*(g>e))", None), ("(f>e)", None),
]


class TestInterface(unittest.TestCase):
    def test_each_function_is_defined_in_the_file(self):
        for name in ("many", "rest", "apart", "apart_fault"):
            self.assertEqual(getattr(counts, name).__module__, "kindswap.counts")

    def test_arguments_are_told_by_name(self):
        self.assertEqual(many(sizes=SIZES, kind=func(A, B)), 9)
        self.assertEqual(rest(by=7, sizes=SIZES, kind=func(A, B)), 2)
        self.assertIsNone(apart(other=both(A, B), one=both(B, A)))
        told = apart(other=A, one=B)
        self.assertIsNone(apart_fault(thing=told, other=B, one=A))
        self.assertEqual(apart_fault(thing=(ONES, 7), other=func(A, B), one=A), ("rest", 1))
        for call in (lambda: many(sizes=ONES, kind=None), lambda: rest(by=7, sizes=ONES, kind=None),
                     lambda: apart(other=A, one=None), lambda: apart_fault(thing=None, other=None, one=A)):
            self.assertRaises(NoKind, call)


class TestMany(Refusals):
    def test_numbers_that_are_written_here(self):
        for text, number in NUMBERS:
            with self.subTest(text):
                if number is None:
                    self.assert_refused(TooMany, many, read_kind(text), SIZES)
                else:
                    told = many(read_kind(text), SIZES)
                    self.assertEqual(told, number)
                    self.assertIs(type(told), int)

    def test_all_small_kinds(self):
        for leaves in (1, 2, 3, 4):
            for kind in small_kinds(leaves, [UNIT, A, B] if leaves < 4 else [UNIT, A]):
                for sizes in (SIZES, ONES, [3, 2] + ONES[2:], [12, 1] + ONES[2:], [999] * 8):
                    number = count(kind, sizes, 10 ** 80)
                    if number is not None and number <= MOST:
                        self.assertEqual(many(kind, sizes), number)
                    else:
                        self.assert_refused(TooMany, many, kind, sizes)

    def test_the_size_of_each_base_and_no_other(self):
        for n in range(8):
            sizes = [11, 12, 13, 14, 15, 16, 17, 18]
            self.assertEqual(many(base(n), sizes), 11 + n)
            self.assertEqual(many(func(both(base(n), UNIT), A), ONES), 1)

    def test_by_sizes_of_1_all_have_one(self):
        for kind in list(wide_kinds()) + list(deep_kinds(100)):
            self.assertEqual(many(kind, ONES), 1)
            self.assertEqual(rest(kind, ONES, 10 ** 9), 1)

    def test_the_last_that_is_told_and_the_first_that_is_refused(self):
        sizes = [999, 12, 88, 115, 29, 349, 10, 40]
        most = both(func(B, A), both(C, D))
        more = both(func(B, A), both(E, F))
        # No number lies between the two that both these are made of.
        self.assertEqual((88 * 115, 29 * 349), (10120, 10121))
        self.assertLess(999 ** 12 * 10120, 10 ** 40)
        self.assertEqual(many(most, sizes), 999 ** 12 * 10120)
        self.assertEqual(len(str(many(most, sizes))), 40)
        self.assertGreater(999 ** 12 * 10121, MOST)
        self.assert_refused(TooMany, many, more, sizes)
        self.assert_refused(TooMany, many, func(H, G), sizes)
        for _ in range(30):
            most, more = func(UNIT, most), both(more, UNIT)
            self.assertEqual(many(most, sizes), 999 ** 12 * 10120)
            self.assert_refused(TooMany, many, more, sizes)

    def test_powers_up_to_forty_figures(self):
        for size in (2, 3, 7, 10, 31, 99, 998, 999):
            for times in range(1, 200):
                sizes = [size, times] + ONES[2:]
                if size ** times <= MOST:
                    self.assertEqual(many(func(B, A), sizes), size ** times)
                    self.assertEqual(many(func(func(func(B, A), UNIT), A), sizes), size)
                else:
                    self.assert_refused(TooMany, many, func(B, A), sizes)
                    self.assertEqual(many(func(func(B, A), UNIT), sizes), 1)


class TestRest(Refusals):
    DIVISORS = (2, 3, 4, 5, 6, 8, 9, 10, 12, 16, 27, 30, 32, 64, 81, 97, 100, 128, 210, 243, 256, 360,
                500, 625, 720, 729, 997, 1000, 1009, 1024)

    def test_rests_that_are_written_here(self):
        tower = A
        for _ in range(12):
            tower = func(tower, A)
        # The last figures of towers of 3 and of 7, as they are known.
        self.assertEqual(rest(tower, [3] * 8, 10 ** 9), 464195387)
        self.assertEqual(rest(tower, [7] * 8, 1000), 343)
        self.assertEqual(rest(func(func(A, B), B), [7, 7] + ONES[2:], 10), 3)
        self.assertEqual(rest(func(both(A, A), B), [30, 2] + ONES[2:], 997), pow(2, 900, 997))

    def test_of_small_numbers_it_is_that_of_what_many_tells(self):
        for text, number in NUMBERS:
            if number is not None:
                for by in self.DIVISORS + (10 ** 9, 10 ** 9 - 63, 999999937):
                    with self.subTest(text=text, by=by):
                        told = rest(read_kind(text), SIZES, by)
                        self.assertEqual(told, number % by)
                        self.assertIs(type(told), int)

    def test_against_a_slow_way(self):
        texts = ["(h>a)", "(h>(h>a))", "((h>a)>b)", "((h>a)>(h>e))", "(((h>a)>e)>f)", "(((a>b)>h)>e)",
                 "((h>b)*(f>e))", "(((h>b)*(f>e))>(g*e))", "((h>a)>((h>b)>(h>d)))", "((f>g)>g)",
                 "((((b>b)>b)>b)>b)", "(((((a>a)>a)>a)>a)>a)", "((h>a)>c)", "((((h>a)>c)>b)*(h>f))",
                 "(((((h>h)>h)>h)>h)>h)", "((((f>g)>g)>e)>e)", "(((h>h)>(h>h))>((h>h)>(h>h)))"]
        for text in texts:
            for by in self.DIVISORS:
                for sizes in (SIZES, [6, 15, 1, 64, 81, 512, 30, 210], [999] * 8, [997] * 8):
                    with self.subTest(text=text, by=by):
                        told = rest(read_kind(text), sizes, by)
                        self.assertEqual(told, slow_rest(read_kind(text), sizes, by))
                        self.assertTrue(0 <= told < by)

    def test_all_small_kinds_against_a_slow_way(self):
        for kind in small_kinds(4, [A, B]) + small_kinds(3, [A, B, UNIT]):
            for by in (2, 8, 97, 360, 1000):
                for sizes in ([12, 35] + ONES[2:], [2, 999] + ONES[2:], [1, 10] + ONES[2:]):
                    self.assertEqual(rest(kind, sizes, by), slow_rest(kind, sizes, by))

    def test_all_divisors_of_a_row_with_parts_in_common_with_the_sizes(self):
        kind = read_kind("(((b>a)>a)>a)")
        for by in range(2, 400):
            for sizes in ([2, 3] + ONES[2:], [12, 7] + ONES[2:], [30, 5] + ONES[2:]):
                self.assertEqual(rest(kind, sizes, by), slow_rest(kind, sizes, by))

    def test_the_greatest_divisors(self):
        # By a prime, its last power of a number; by ten to the power of nine, ends of powers.
        prime = 999999937
        self.assertEqual(rest(read_kind("(a>b)"), [499, 2] + ONES[2:], prime), pow(2, 499, prime))
        kind = read_kind("((h>g)>a)")
        sizes = [3] + ONES[1:6] + [2, 999]
        self.assertEqual(rest(kind, sizes, prime), pow(3, pow(2, 999, prime - 1), prime))
        self.assertEqual(rest(kind, sizes, 10 ** 9), pow(3, 2 ** 999, 10 ** 9))
        self.assertEqual(rest(kind, [10] + sizes[1:], 10 ** 9), 0)
        self.assertEqual(rest(kind, [2] + sizes[1:], 2), 0)
        self.assertEqual(rest(kind, sizes, 2), 1)

    # Primes, and products of two of them greater than a thousand, among these squares.
    PRIMES = [1009, 1013, 4999, 15013, 31601, 31607, 99991, 611953, 990019, 990037, 999983, 333667, 35925119,
              71850239, 499999993, 999999929, 999999937]
    PAIRS = [1009 * 1009, 1009 * 1013, 1009 * 990037, 1013 * 611953, 1013 * 1013, 4999 * 99991, 4999 * 4999,
             15013 * 31607, 15013 * 15013, 31601 * 31607, 31607 * 31607, 31601 * 31601, 1009 * 990019, 4999 * 15013]

    def test_great_divisors_against_all_figures(self):
        # What the number is raised to is still told figure by figure here.
        kind = read_kind("((h>g)>a)")
        chance = random.Random(7)
        divisors = self.PRIMES + self.PAIRS + [2 * by for by in self.PRIMES[:-3]]
        divisors += list(range(10 ** 9 - 40, 10 ** 9 + 1))
        divisors += [2 * 3 ** 18, 3 * 5 * 1009 * 31607, 2 ** 9 * 3 * 611953, 30030 * 33287, 2 ** 29, 3 ** 18, 997 ** 3,
                     991 * 997 * 1009, 7 ** 10, 31 ** 6]
        divisors += [chance.randrange(10 ** 6, 10 ** 9) for _ in range(300)]
        for by in divisors:
            for sizes in ([2] + ONES[1:6] + [3, 999], [998] + ONES[1:6] + [6, 991], [31] + ONES[1:6] + [990, 998]):
                with self.subTest(by=by, sizes=sizes):
                    self.assertEqual(rest(kind, sizes, by), pow(sizes[0], sizes[6] ** sizes[7], by))

    def test_powers_by_a_product_of_two_primes(self):
        # By each of the two the rest is known from the prime alone.
        kind = read_kind("((((h>g)>f)>a)*((h>g)>a))")
        for one, other in itertools.combinations([1009, 1013, 4999, 15013, 31601, 31607], 2):
            sizes = [7] + ONES[1:5] + [11, 13, 997]
            told = rest(kind, sizes, one * other)
            self.assertEqual(told % one, rest(kind, sizes, one))
            self.assertEqual(told % other, rest(kind, sizes, other))

    def test_the_same_is_told_of_one_divisor_after_another(self):
        kind = read_kind("((((h>g)>f)>a)>b)")
        divisors = self.PRIMES + self.PAIRS + [2, 3, 1024, 10 ** 9]
        told = [rest(kind, SIZES, by) for by in divisors]
        self.assertEqual([rest(kind, SIZES, by) for by in divisors], told)
        self.assertEqual([rest(kind, SIZES, by) for by in reversed(divisors)], told[::-1])

    def test_many_calls_in_a_short_time(self):
        kind, other = read_kind("(((a>b)>c)>d)"), read_kind("(((b>a)>c)>d)")
        for call in (lambda: rest(kind, [9] * 8, 71850239), lambda: rest(kind, [9] * 8, 999999937),
                     lambda: rest(kind, [9] * 8, 999999929), lambda: rest(kind, [999] * 8, 499999993),
                     lambda: apart(kind, other), lambda: apart_fault(kind, other, ([2] + [9] * 7, 999999937))):
            began = time.process_time()
            for _ in range(3000):
                call()
            # A tenth of this is enough, as no divisor is tried by all numbers up to its root.
            self.assertLess(time.process_time() - began, 2)

    def test_towers_in_a_short_time(self):
        began = time.process_time()
        tower = H
        for high in range(2, 30):
            tower = func(tower, base(high % 8))
            for by in (2, 1024, 999999937, 10 ** 9, 999999999, 2 ** 29):
                told = rest(tower, [999, 998, 997, 996, 995, 994, 993, 992], by)
                self.assertTrue(0 <= told < by)
        self.assertLess(time.process_time() - began, 20)


class TestRefusals(Refusals):
    def test_what_is_no_kind_ahead_of_all_else(self):
        for at, thing in enumerate(no_kinds_at_any_depth()):
            with self.subTest(at):
                for sizes in (ONES, None, [1] * 7, {}):
                    self.assert_refused(NoKind, many, thing, sizes)
                    self.assert_refused(NoKind, rest, thing, sizes, 7)
                    self.assert_refused(NoKind, rest, thing, sizes, 1)

    def test_what_are_no_sizes_ahead_of_too_many_and_of_what_is_no_divisor(self):
        for at, thing in enumerate(NO_SIZES):
            with self.subTest(at):
                for kind in (A, UNIT, read_kind("((h>h)>h)")):
                    self.assert_refused(NoSizes, many, kind, thing)
                    self.assert_refused(NoSizes, rest, kind, thing, 7)
                    self.assert_refused(NoSizes, rest, kind, thing, 0)
                    self.assert_refused(NoSizes, rest, kind, thing, None)

    def test_what_is_no_divisor(self):
        for at, thing in enumerate(NO_DIVISORS):
            with self.subTest(at):
                for kind in (A, UNIT, read_kind("((h>h)>h)")):
                    self.assert_refused(NoDivisor, rest, kind, SIZES, thing)

    def test_the_least_and_the_greatest_that_are_taken(self):
        self.assertEqual(rest(A, [999] * 8, 2), 1)
        self.assertEqual(rest(A, [999] * 8, 10 ** 9), 999)
        self.assertEqual(many(A, [1] * 7 + [999]), 1)
        self.assertEqual(many(H, [1] * 7 + [999]), 999)

    def test_sizes_are_unchanged_and_looked_at_anew(self):
        sizes = list(SIZES)
        kind = read_kind("((h>b)*(f>e))")
        self.assert_refused(TooMany, many, kind, sizes)
        self.assertEqual(rest(kind, sizes, 1000), slow_rest(kind, SIZES, 1000))
        self.assert_refused(NoDivisor, rest, kind, sizes, 1)
        self.assertEqual(sizes, SIZES)
        self.assertEqual((many(B, sizes), rest(B, sizes, 2)), (3, 1))
        sizes[1] = 8
        self.assertEqual((many(B, sizes), rest(B, sizes, 2)), (8, 0))
        self.assertEqual(rest(kind, sizes, 997), slow_rest(kind, [2, 8] + SIZES[2:], 997))
        sizes[1] = 1000
        self.assert_refused(NoSizes, many, B, sizes)
        self.assert_refused(NoSizes, rest, B, sizes, 7)
        sizes[1] = 4
        sizes.append(1)
        self.assert_refused(NoSizes, many, B, sizes)
        sizes.pop()
        self.assertEqual((many(B, sizes), rest(B, sizes, 3)), (4, 1))


def towers(high):
    """Kinds that differ in one leaf, as far within as a form of so many factors within one another
    goes, and in the order of the functions."""
    for numbers in ([0] * high, [n % 8 for n in range(high)], [n % 2 for n in range(high)]):
        for at in range(high):
            changed = numbers[:at] + [(numbers[at] + 1) % 8] + numbers[at + 1:]
            yield _tower(numbers), _tower(changed)
            yield _tower(numbers), _tower(numbers[:at] + numbers[at + 1:])
            twice = _tower(numbers[:at] + [numbers[at]] * 2 + numbers[at + 1:])
            if high < 6:
                yield _tower(numbers), twice
            for other in range(at):
                swapped = list(numbers)
                swapped[at], swapped[other] = numbers[other], numbers[at]
                yield _tower(numbers), _tower(swapped)
            yield _tower(numbers, at), _tower(numbers)
            yield _tower(numbers, at), _tower(changed, at)
            yield _tower(numbers, at), _tower(numbers, (at + 1) % high)


def _tower(numbers, doubled=None):
    """Functions that take functions, with one base put twice at one place."""
    kind = UNIT
    for at, n in enumerate(numbers):
        kind = func(kind, base(n))
        if at == doubled:
            kind = both(base(n), kind)
    return kind


class TestApart(Refusals):
    def check(self, one, other):
        """Whether what is told of the two kinds is so."""
        for first, second in ((one, other), (other, one)):
            told = apart(first, second)
            if alike(first, second):
                self.assertIsNone(told)
                continue
            self.assertIs(type(told), tuple)
            sizes, by = told
            self.assertIs(type(sizes), list)
            self.assertEqual([type(size) for size in sizes], [int] * 8)
            self.assertTrue(all(1 <= size <= 999 for size in sizes))
            self.assertIs(type(by), int)
            self.assertTrue(2 <= by <= 10 ** 9)
            self.assertNotEqual(rest(first, sizes, by), rest(second, sizes, by))
        if not alike(one, other):
            self.assertIsNone(apart_fault(one, other, told))
            self.assertIsNone(apart_fault(other, one, told))

    def test_alike_kinds_and_unlike_ones(self):
        for row in ALIKE_ROWS:
            for other_row in ALIKE_ROWS:
                for one, other in itertools.product(row, other_row[:2]):
                    with self.subTest(one=one, other=other):
                        self.check(read_kind(one), read_kind(other))

    def test_all_small_kinds(self):
        groups = {}
        for leaves in (1, 2, 3):
            for kind in small_kinds(leaves, [UNIT, A, B]):
                groups.setdefault(str(form(kind)), []).append(kind)
        firsts = [group[0] for group in groups.values()]
        for one, other in itertools.combinations(firsts, 2):
            self.check(one, other)
        for group in groups.values():
            for kind in group:
                self.assertIsNone(apart(kind, group[0]))
                self.assertIsNone(apart(group[0], kind))

    def test_towers_that_differ_in_one_place(self):
        for high in (1, 2, 3, 4, 5, 6):
            for one, other in towers(high):
                with self.subTest(one=kind_text(one), other=kind_text(other)):
                    self.check(one, other)

    def test_in_how_often_a_factor_comes(self):
        for factor in ("a", "(a>b)", "((a>b)>c)", "((((a>a)>a)>a)>a)"):
            kind = read_kind(factor)
            rows = [kind]
            for _ in range(5):
                rows.append(both(kind, rows[-1]))
            for one, other in itertools.combinations(rows, 2):
                self.check(one, other)
                self.check(func(one, B), func(other, B))
                self.check(func(func(one, B), C), func(func(other, B), C))
                self.check(both(func(one, B), A), both(func(other, B), A))

    def test_in_what_a_factor_wants(self):
        wants = ["1", "a", "b", "(a*a)", "(a*b)", "(a>a)", "(a>b)", "(b>a)", "(a>(a>b))", "((a>a)>b)",
                 "((a>b)>a)", "((b*b)>a)", "(((a>a)>a)>a)", "((a>a)>(a>a))", "((a>a)*(a>b))"]
        for one, other in itertools.combinations(map(read_kind, wants), 2):
            for give in (lambda kind: func(kind, A), lambda kind: func(kind, both(A, B)),
                         lambda kind: func(func(kind, B), A), lambda kind: both(func(kind, A), func(B, A)),
                         lambda kind: func(both(func(kind, C), A), func(func(C, kind), B))):
                self.check(give(one), give(other))

    def test_kinds_put_together_without_any_plan(self):
        chance = random.Random(8)
        for _ in range(200):
            one, other = _any_kind(chance, 5), _any_kind(chance, 5)
            if max(_high(form(one)), _high(form(other))) <= 6:
                self.check(one, other)
                self.check(both(one, other), both(other, one))
                self.check(both(one, one), both(one, other))

    def test_the_list_is_a_new_one(self):
        for one, other in ((A, B), (func(A, B), both(A, B)), (UNIT, H)):
            sizes, by = apart(one, other)
            before = list(sizes)
            sizes[0] = None
            sizes.clear()
            self.assertEqual(apart(one, other), (before, by))
            self.assertIsNot(apart(one, other)[0], apart(one, other)[0])

    def test_refuses_what_is_no_kind(self):
        for at, thing in enumerate(no_kinds_at_any_depth()):
            with self.subTest(at):
                for one, other in ((thing, A), (A, thing), (thing, thing), (UNIT, thing), (thing, None)):
                    self.assert_refused(NoKind, apart, one, other)
                    for told in (None, (ONES, 7), {}, apart(A, B)):
                        self.assert_refused(NoKind, apart_fault, one, other, told)


def _any_kind(chance, deep):
    if deep == 0 or chance.random() < 0.2:
        return chance.choice([A, A, B, C, H, UNIT])
    word = chance.choice(["both", "from"])
    return (word, _any_kind(chance, deep - 1), _any_kind(chance, deep - 1))


def _high(factors):
    """How many factors stand within one another."""
    return 1 + max(_high(wants) for wants, _ in factors) if factors else 0


class TestApartFault(Refusals):
    WRONG = STRAYS + TUPLES_NO_KIND + [A, UNIT, both(A, B), "", "apart", [], [ONES, 7], (ONES,), (7,),
                                       (ONES, 7, 7), (ONES, 7, None), (7, ONES), (ONES, ONES), (7, 7),
                                       (ONES, [7]), ((ONES, 7),), [(ONES, 7)], ((), ()), ([], 7)]

    def test_none_where_the_rests_are_unlike(self):
        for one, other, sizes, by in (("a", "b", [2, 3], 2), ("a", "b", [999, 1], 10 ** 9),
                                      ("(a>b)", "(b>a)", [2, 3], 7), ("1", "a", [2, 1], 3)):
            told = (sizes + ONES[2:], by)
            self.assertIsNone(apart_fault(read_kind(one), read_kind(other), told))
            self.assertIsNone(apart_fault(read_kind(other), read_kind(one), told))

    def test_the_rest_where_both_have_it(self):
        for one, other, sizes, by, same in (
                ("a", "b", [5, 3], 2, 1), ("a", "b", [4, 4], 10 ** 9, 4), ("a", "b", [999, 999], 37, 0),
                ("(a>b)", "(b>a)", [2, 4], 10 ** 9, 16), ("(a>b)", "(b>a)", [2, 3], 2, None),
                ("1", "a", [1, 1], 2, 1), ("1", "a", [8, 1], 7, 1), ("(a*b)", "(a>b)", [2, 2], 3, 1),
                ("(a*b)", "(b*a)", [6, 7], 5, 2), ("((a>a)>a)", "(a>(1>(1*a)))", [2, 9], 12, 4)):
            with self.subTest(one=one, other=other):
                told = (sizes + ONES[2:], by)
                fault = None if same is None else ("rest", same)
                self.assertEqual(apart_fault(read_kind(one), read_kind(other), told), fault)
                self.assertEqual(apart_fault(read_kind(other), read_kind(one), told), fault)

    def test_of_alike_kinds_it_is_never_none(self):
        for row in ALIKE_ROWS:
            for one, other in itertools.product(map(read_kind, row), repeat=2):
                for sizes in (ONES, SIZES, [999] * 8):
                    for by in (2, 7, 10 ** 9):
                        fault = apart_fault(one, other, (sizes, by))
                        self.assertEqual(fault, ("rest", rest(one, sizes, by)))
                self.assertEqual(apart_fault(one, other, None), ("form",))

    def test_the_form(self):
        for one, other in ((A, B), (A, A), (read_kind("((h>h)>h)"), UNIT)):
            for at, thing in enumerate(self.WRONG):
                with self.subTest(at):
                    self.assertEqual(apart_fault(one, other, thing), ("form",))
            for at, sizes in enumerate(NO_SIZES):
                with self.subTest(sizes=at):
                    self.assertEqual(apart_fault(one, other, (sizes, 7)), ("form",))
                    self.assertEqual(apart_fault(one, other, (sizes, None)), ("form",))
            for at, by in enumerate(NO_DIVISORS):
                with self.subTest(by=at):
                    self.assertEqual(apart_fault(one, other, ([2, 3] + ONES[2:], by)), ("form",))
            self.assertEqual(apart_fault(one, other, [[2, 3] + ONES[2:], 7]), ("form",))

    def test_sizes_are_unchanged_and_looked_at_anew(self):
        sizes = [2, 3] + ONES[2:]
        told = (sizes, 7)
        before = copy.deepcopy(told)
        self.assertIsNone(apart_fault(A, B, told))
        self.assertEqual(told, before)
        sizes[1] = 9
        self.assertEqual(apart_fault(A, B, told), ("rest", 2))
        sizes[1] = 0
        self.assertEqual(apart_fault(A, B, told), ("form",))
        sizes[1] = 4
        self.assertIsNone(apart_fault(A, B, told))
        sizes.pop()
        self.assertEqual(apart_fault(A, B, told), ("form",))


class TestBounds(Refusals):
    GREAT = [999, 998, 997, 996, 2, 3, 7, 5]

    def test_deep_and_wide_kinds_in_a_short_time(self):
        began = time.process_time()
        for kind in list(deep_kinds(100)) + list(wide_kinds()):
            for sizes in (self.GREAT, SIZES):
                number = count(kind, sizes, 10 ** 80)
                if number is None or number > MOST:
                    self.assert_refused(TooMany, many, kind, sizes)
                else:
                    self.assertEqual(many(kind, sizes), number)
                self.assertEqual(rest(kind, sizes, 210), slow_rest(kind, sizes, 210))
                for by in (2, 999999937, 10 ** 9):
                    self.assertTrue(0 <= rest(kind, sizes, by) < by)
                fault = apart_fault(kind, kind, (sizes, 10 ** 9))
                self.assertEqual(fault, ("rest", rest(kind, sizes, 10 ** 9)))
            self.assertIsNone(apart(kind, kind))
            self.assertIsNone(apart(kind, both(UNIT, func(UNIT, kind))))
            self.assertIsNotNone(apart(kind, both(H, kind)))
        self.assertLess(time.process_time() - began, 60)


if __name__ == "__main__":
    unittest.main()
