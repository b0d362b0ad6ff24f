"""Tests of worths: promise [9], [3] so far as it speaks of them, and [2] and its bounds for
kindswap/worths.py."""

import copy
import itertools
import time
import unittest

from kindswap import worths as worths_file
from kindswap.counts import many
from kindswap.errors import NoKind, NoSizes, TooMany
from kindswap.kinds import read_kind
from kindswap.worths import is_worth, worths
from samples import (A, B, C, H, NO_SIZES, STRAYS, TUPLES_NO_KIND, UNIT, Loud, Refusals, Yes, both,
                     deep_kinds, func, no_kinds_at_any_depth, small_kinds, wide_kinds)
from slow import slow_worths, strictly_the_same

ONES = [1] * 8
SIZES = [2, 3, 1, 4, 50, 100, 82, 61]

# Texts of kinds, with their worths by SIZES.
WORTHS = [
    ("a", [0, 1]), ("b", [0, 1, 2]), ("c", [0]), ("1", [()]), ("(1*1)", [((), ())]),
    ("(a*b)", [(0, 0), (0, 1), (0, 2), (1, 0), (1, 1), (1, 2)]),
    ("(b*a)", [(0, 0), (0, 1), (1, 0), (1, 1), (2, 0), (2, 1)]),
    ("(a*1)", [(0, ()), (1, ())]), ("(1*a)", [((), 0), ((), 1)]), ("(c*a)", [(0, 0), (0, 1)]),
    ("(a>a)", [(0, 0), (0, 1), (1, 0), (1, 1)]),
    ("(a>b)", [(0, 0), (0, 1), (0, 2), (1, 0), (1, 1), (1, 2), (2, 0), (2, 1), (2, 2)]),
    ("(b>a)", [(0, 0, 0), (0, 0, 1), (0, 1, 0), (0, 1, 1), (1, 0, 0), (1, 0, 1), (1, 1, 0), (1, 1, 1)]),
    ("(1>a)", [(0,), (1,)]), ("(a>1)", [((), ())]), ("(b>1)", [((), (), ())]), ("(1>1)", [((),)]),
    ("(c>b)", [(0,), (1,), (2,)]), ("(b>c)", [(0, 0, 0)]), ("(1>(a*1))", [((0, ()),), ((1, ()),)]),
    ("((a*c)>a)", [(0, 0), (0, 1), (1, 0), (1, 1)]), ("((1>a)>(1>c))", [((0,), (0,))]),
    ("(a>(c>a))", [((0,), (0,)), ((0,), (1,)), ((1,), (0,)), ((1,), (1,))]),
    ("((a>c)>a)", [(0,), (1,)]), ("(1>(1>(1>a)))", [(((0,),),), (((1,),),)]),
    ("((b>1)*a)", [(((), (), ()), 0), (((), (), ()), 1)]), ("((a>(b>1))>c)", [(0,)]),
    ("(a>(b>1))", [(((), (), ()), ((), (), ()))]),
]


class TestInterface(unittest.TestCase):
    def test_each_function_is_defined_in_the_file(self):
        for name in ("worths", "is_worth"):
            self.assertEqual(getattr(worths_file, name).__module__, "kindswap.worths")

    def test_arguments_are_told_by_name(self):
        self.assertEqual(worths(sizes=SIZES, kind=both(C, A)), [(0, 0), (0, 1)])
        self.assertIs(is_worth(thing=(0, 1), sizes=SIZES, kind=both(C, A)), True)
        self.assertIs(is_worth(sizes=SIZES, thing=(1, 0), kind=both(C, A)), False)
        for call in (lambda: worths(sizes=SIZES, kind=None),
                     lambda: is_worth(thing=0, sizes=SIZES, kind=None)):
            self.assertRaises(NoKind, call)


class TestWorths(Refusals):
    def test_worths_that_are_written_here(self):
        for text, told in WORTHS:
            with self.subTest(text):
                self.assertTrue(strictly_the_same(tuple(worths(read_kind(text), SIZES)), tuple(told)))
                self.assertIs(type(worths(read_kind(text), SIZES)), list)

    def test_all_small_kinds(self):
        for leaves in (1, 2, 3, 4):
            for kind in small_kinds(leaves, [UNIT, A, B] if leaves < 4 else [A, B]):
                for sizes in (SIZES, [1, 2] + ONES[2:], [3, 2] + ONES[2:]):
                    try:
                        number = many(kind, sizes)
                    except TooMany:
                        continue
                    if number <= 300:
                        told = worths(kind, sizes)
                        self.assertTrue(strictly_the_same(tuple(told), tuple(slow_worths(kind, sizes))))
                        self.assertEqual(len(told), number)

    def test_all_in_order_each_once_as_many_as_many_tells(self):
        for text in ("h", "(e*f)", "(b*(a>(b*d)))", "((a>b)>a)", "((b>a)>a)", "((a>a)>(b*a))", "((a>a)>d)",
                     "(d>((1*a)*d))", "(((a>a)>a)*(a>1))", "((a>a)*((b>b)*d))", "(((h>1)>d)*(1>g))",
                     "((a>a)>((b>1)>b))", "(b>((a>a)*(1>d)))", "((a*(a*b))>a)", "(a>(a>(b>a)))", "(a>(a>(c>d)))"):
            with self.subTest(text):
                told = worths(read_kind(text), SIZES)
                self.assertEqual(len(told), many(read_kind(text), SIZES))
                for one, other in itertools.pairwise(told):
                    self.assertLess(one, other)
                for worth in told:
                    self.assertIs(is_worth(read_kind(text), SIZES, worth), True)

    def test_each_list_is_a_new_one(self):
        for text, told in WORTHS:
            first = worths(read_kind(text), SIZES)
            second = worths(read_kind(text), SIZES)
            self.assertIsNot(first, second)
            first.append(None)
            first.reverse()
            self.assertEqual(second, told)
            second.clear()
            self.assertEqual(worths(read_kind(text), SIZES), told)

    def test_five_thousand_are_told_and_more_refused(self):
        for text, number in (("(e*f)", 5000), ("(f*e)", 5000), ("((e*f)*c)", 5000), ("(1>(e*f))", 5000),
                             ("(a>g)", None), ("(g*h)", None), ("((g*h)*1)", None), ("(c>(g*h))", None),
                             ("(h*g)", None), ("((e*f)*a)", None), ("((a>b)>(a>b))", None),
                             ("((e>f)>1)", None), ("((e*f)>1)", 1), ("(a*((e*f)>1))", 2)):
            with self.subTest(text):
                kind = read_kind(text)
                if number is None:
                    self.assert_refused(TooMany, worths, kind, SIZES)
                else:
                    self.assertEqual(len(worths(kind, SIZES)), number)
        self.assertEqual(many(read_kind("(g*h)"), SIZES), 5002)
        self.assertEqual(worths(read_kind("(e*f)"), SIZES), list(itertools.product(range(50), range(100))))
        for sizes in ([70, 1] + ONES[2:], [17, 1] + ONES[2:], [1, 3] + ONES[2:]):
            self.assertEqual(len(worths(both(A, A), sizes)), sizes[0] ** 2)
        self.assert_refused(TooMany, worths, both(A, A), [71] + ONES[1:])

    def test_powers_just_within_five_thousand(self):
        for size in range(2, 72):
            for times in range(1, 14):
                kind, sizes = func(B, A), [size, times] + ONES[2:]
                if size ** times > 5000:
                    self.assert_refused(TooMany, worths, kind, sizes)
                elif size ** times > 2000:
                    self.assertEqual(worths(kind, sizes), slow_worths(kind, sizes))


# Kinds in which a function takes one of 5000 worths, and the same with 5002.
FUNCTIONS = [
    ["(TAKEN>1)", "(TAKEN>c)", "((TAKEN>1)>1)", "((TAKEN>1)>b)", "(1>(TAKEN>1))", "(b>(TAKEN>1))",
     "(a*(TAKEN>1))", "((TAKEN>c)*a)", "((a>(TAKEN>1))>c)", "(((TAKEN>c)>1)>1)", "((a*(TAKEN>1))>b)",
     "(((b*(1>(TAKEN>1)))>1)>a)", "((TAKEN*1)>1)", "((1>TAKEN)>1)", "(TAKEN>(a>1))",
     "(a*((TAKEN>1)*((TAKEN>1)>1)))"],
    "(e*f)", "(g*h)",
]


class TestTooMany(Refusals):
    def test_where_a_function_takes_one_of_more_than_five_thousand(self):
        texts, few, more = FUNCTIONS
        for text in texts:
            with self.subTest(text):
                kind = read_kind(text.replace("TAKEN", few))
                told = worths(kind, SIZES)
                self.assertEqual(len(told), many(kind, SIZES))
                for worth in told:
                    self.assertIs(is_worth(kind, SIZES, worth), True)
                self.assertIs(is_worth(kind, SIZES, None), False)
                kind = read_kind(text.replace("TAKEN", more))
                self.assertLess(many(kind, SIZES), 5000)
                self.assert_refused(TooMany, worths, kind, SIZES)
                for thing in told[:3] + STRAYS + TUPLES_NO_KIND + [(), [], ((),), ((),) * 5002]:
                    self.assert_refused(TooMany, is_worth, kind, SIZES, thing)

    def test_a_great_power_that_is_taken(self):
        for text in ("((h>h)>1)", "(((h>h)>h)>1)", "(a*(((h>h)>1)>1))", "((((h>h)>h)*1)>c)"):
            self.assertLess(many(read_kind(text), SIZES), 3)
            self.assert_refused(TooMany, worths, read_kind(text), SIZES)
            self.assert_refused(TooMany, is_worth, read_kind(text), SIZES, ())

    def test_is_worth_looks_at_kinds_of_far_more_worths(self):
        sizes = [999, 70] + ONES[2:]
        for text, thing, wrong in (
                ("(a*(a*a))", (998, (0, 5)), (0, (999, 0))), ("(a>a)", (998,) * 999, (998,) * 998 + (999,)),
                ("(a>a)", tuple(range(999)), tuple(range(1, 1000))), ("(a>(a*a))", ((1, 2),) * 999, (1,) * 999),
                ("(b>(b>a))", ((998,) * 70,) * 70, ((998,) * 70,) * 69 + ((998,) * 69,)),
                ("((b*b)>a)", (7,) * 4900, (7,) * 4899), ("((b*b)>b)", (69,) * 4900, (69,) * 4899 + (70,)),
                ("((b*b)>b)", (0,) * 4900, (0,) * 4000 + (False,) + (0,) * 899),
                ("(b*((1>a)>(1*a)))", (69, (((), 998),) * 999), (70, (((), 998),) * 999)),
                ("(b*((1>a)>(1*a)))", (0, (((), 0),) * 999), (0, (((), 0),) * 998 + (((), False),)))):
            with self.subTest(text):
                self.assertIs(is_worth(read_kind(text), sizes, thing), True)
                self.assertIs(is_worth(read_kind(text), sizes, wrong), False)

    def test_each_entry_of_many_is_looked_at(self):
        sizes = [50, 100, 3] + ONES[3:]
        for kind, entry, wrong in ((C, 2, 3), (both(C, C), (2, 2), (2, True)), (UNIT, (), ((),))):
            kind = func(both(A, B), kind)
            row = (entry,) * 5000
            self.assertIs(is_worth(kind, sizes, row), True)
            for at in itertools.chain(range(0, 5000, 83), range(990, 1010), range(4990, 5000)):
                self.assertIs(is_worth(kind, sizes, row[:at] + (wrong,) + row[at + 1:]), False)


def spoilt(worth):
    """Things a little other than the worth, in one place of it."""
    if type(worth) is int:
        yield from (worth + 10 ** 3, worth - 10 ** 3, worth + 10 ** 59, bool(worth), float(worth), str(worth))
        yield from (None, (), (worth,), [worth], [], {}, Loud(), Yes(), object())
        return
    yield from (list(worth), worth + (0,), worth + ((),), worth + (None,), worth + worth + ((),), (worth,))
    yield from (None, 0, 1, True, "", [], {}, Loud(), Yes(), {worth: worth}, (worth, worth, worth, worth))
    if worth:
        yield from (worth[:-1], worth[1:], ())
    for at, part in enumerate(worth):
        for wrong in spoilt(part):
            yield worth[:at] + (wrong,) + worth[at + 1:]


class TestIsWorth(Refusals):
    def test_just_what_worths_tells(self):
        kinds = [kind for leaves in (1, 2, 3) for kind in small_kinds(leaves, [UNIT, A, B])]
        kinds += [read_kind(text) for text, _ in WORTHS]
        for kind in kinds:
            if many(kind, SIZES) > 600:
                continue
            told = worths(kind, SIZES)
            for worth in told[:8] + told[-8:]:
                self.assertIs(is_worth(kind, SIZES, worth), True)
                for thing in spoilt(worth):
                    self.assertIs(is_worth(kind, SIZES, thing), False, (kind, thing))

    def test_the_worths_of_each_kind_against_those_of_all_others(self):
        kinds = [kind for leaves in (1, 2, 3) for kind in small_kinds(leaves, [UNIT, A, B])]
        kinds = [kind for kind in kinds if many(kind, SIZES) < 100]
        told = [slow_worths(kind, SIZES) for kind in kinds]
        for kind, row in zip(kinds, told):
            for other in told:
                for worth in (other[0], other[-1], other[len(other) // 2]):
                    self.assertIs(is_worth(kind, SIZES, worth), worth in row)

    def test_numbers_at_both_ends(self):
        for size in (1, 2, 5, 999):
            sizes = [size] + ONES[1:]
            for kind, put in ((A, lambda n: n), (both(A, UNIT), lambda n: (n, ())),
                              (func(UNIT, A), lambda n: (n,)), (func(B, both(C, A)), lambda n: ((0, n),))):
                for n in (0, size - 1):
                    self.assertIs(is_worth(kind, sizes, put(n)), True)
                for n in (-1, size, size + 1, -size, 10 ** 59, -10 ** 59):
                    self.assertIs(is_worth(kind, sizes, put(n)), False)
        self.assertIs(is_worth(A, [2] + ONES[1:], True), False)
        self.assertIs(is_worth(A, [2] + ONES[1:], False), False)
        self.assertIs(is_worth(both(A, A), [2] + ONES[1:], (0, True)), False)

    def test_parts_exchanged(self):
        self.assertIs(is_worth(both(A, B), SIZES, (1, 2)), True)
        self.assertIs(is_worth(both(A, B), SIZES, (2, 1)), False)
        self.assertIs(is_worth(both(UNIT, A), SIZES, (1, ())), False)
        self.assertIs(is_worth(func(A, both(A, B)), SIZES, ((1, 2), (0, 1))), True)
        self.assertIs(is_worth(func(A, both(A, B)), SIZES, ((1, 2), (2, 1))), False)
        self.assertIs(is_worth(both(func(A, B), func(B, A)), SIZES, ((0, 0, 0), (0, 0))), False)

    def test_of_anything(self):
        for kind in (A, UNIT, both(A, B), func(A, B), func(func(A, A), B), func(A, UNIT), func(UNIT, A)):
            whole = slow_worths(kind, SIZES)
            for at, thing in enumerate(STRAYS + TUPLES_NO_KIND + [A, UNIT, "", "a", [], [()], {}, {(): 0}]):
                told = any(strictly_the_same(thing, worth) for worth in whole)
                with self.subTest(kind=kind, at=at):
                    self.assertIs(is_worth(kind, SIZES, thing), told)


class TestRefusals(Refusals):
    def test_what_is_no_kind_ahead_of_all_else(self):
        for at, thing in enumerate(no_kinds_at_any_depth()):
            with self.subTest(at):
                for sizes in (ONES, None, [1] * 7, {}):
                    self.assert_refused(NoKind, worths, thing, sizes)
                    self.assert_refused(NoKind, is_worth, thing, sizes, 0)
                    self.assert_refused(NoKind, is_worth, thing, sizes, None)

    def test_what_are_no_sizes_ahead_of_too_many(self):
        for at, thing in enumerate(NO_SIZES):
            with self.subTest(at):
                for kind in (A, UNIT, read_kind("((h>h)>h)"), read_kind("((h>h)>1)")):
                    self.assert_refused(NoSizes, worths, kind, thing)
                    self.assert_refused(NoSizes, is_worth, kind, thing, 0)
                    self.assert_refused(NoSizes, is_worth, kind, thing, [])

    def test_what_is_handed_in_is_unchanged_and_looked_at_anew(self):
        sizes = list(SIZES)
        thing = [0, [1], {}]
        before = copy.deepcopy(thing)
        kind = both(A, C)
        self.assertEqual(worths(kind, sizes), [(0, 0), (1, 0)])
        self.assertIs(is_worth(kind, sizes, (2, 0)), False)
        self.assertIs(is_worth(kind, sizes, thing), False)
        self.assertIs(is_worth(kind, sizes, (0, thing)), False)
        self.assert_refused(TooMany, worths, func(H, H), sizes)
        self.assertEqual((sizes, thing), (SIZES, before))
        sizes[0] = 3
        self.assertEqual(worths(kind, sizes), [(0, 0), (1, 0), (2, 0)])
        self.assertIs(is_worth(kind, sizes, (2, 0)), True)
        sizes[1] = 0
        self.assert_refused(NoSizes, worths, kind, sizes)
        self.assert_refused(NoSizes, is_worth, kind, sizes, (0, 0))
        sizes[1] = 1
        sizes[0] = 1
        self.assertEqual(worths(kind, sizes), [(0, 0)])


class TestBounds(Refusals):
    def test_deep_and_wide_kinds_in_a_short_time(self):
        began = time.process_time()
        for kind in list(deep_kinds(100)) + list(wide_kinds()):
            worth, = worths(kind, ONES)
            self.assertIs(is_worth(kind, ONES, worth), True)
            self.assertIs(is_worth(kind, ONES, (worth,)), False)
            self.assertIs(is_worth(kind, ONES, None), False)
            self.check_a_few(kind, [2] + ONES[1:])
            self.check_a_few(kind, [1, 3] + ONES[2:])
            self.check_a_few(kind, [999] * 8)
        self.assertLess(time.process_time() - began, 60)

    def check_a_few(self, kind, sizes):
        try:
            told = worths(kind, sizes)
        except TooMany:
            return
        self.assertEqual(len(told), many(kind, sizes))
        for one, other in itertools.pairwise(told[:3]):
            self.assertLess(one, other)
        if entries(kind, sizes) <= 10 ** 6:
            for worth in told[-2:]:
                self.assertIs(is_worth(kind, sizes, worth), True)


def entries(kind, sizes):
    """How many things stand in a worth of the kind, however many of these are the same."""
    if kind[0] in ("base", "unit"):
        return 1
    other = entries(kind[2], sizes)
    if kind[0] == "both":
        return 1 + entries(kind[1], sizes) + other
    return 1 + many(kind[1], sizes) * other


if __name__ == "__main__":
    unittest.main()
