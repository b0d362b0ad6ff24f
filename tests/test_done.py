"""Tests of what terms do: promise [11], and [2] and its bounds for done of kindswap/terms.py."""

import copy
import itertools
import random
import time
import unittest

from any_terms import AnyTerms, NoneFound
from kindswap.errors import NoSizes, NoTerm, NoWorth, TooMany
from kindswap.kinds import read_kind
from kindswap.terms import done, term_kind
from kindswap.worths import is_worth, worths
from samples import (A, B, C, G, H, NO_SIZES, STRAYS, TUPLES_NO_KIND, UNIT, Loud, Refusals, Yes, both,
                     deep_kinds, func, wide_kinds)
from slow import count, slow_term, slow_worths, strictly_the_same
from term_samples import (G0, G1, G2, LEAVE, NOTHING, SWAP, deep_terms, do, first, given, make, moved,
                          no_terms_at_any_depth, parts_of, row_of_names, second, twice_and_again, wide_terms)

ONES = [1] * 8
SIZES = [2, 3, 1, 4, 1, 1, 82, 61]
AA = func(A, A)
G3, G5 = given(3), given(5)
LEAVE_FUNCTION = make(AA, G0)
TWICE = make(AA, make(A, do(G0, do(G0, G1))))

# Functions, each with some worths and what it gives for these by SIZES.
DONE = [
    (LEAVE, [(0, 0), (1, 1)]), (SWAP, [((0, 2), (2, 0)), ((1, 1), (1, 1))]), (make(UNIT, G0), [((), ())]),
    (make(A, NOTHING), [(0, ()), (1, ())]), (make(B, both(G0, G0)), [(2, (2, 2))]),
    (make(both(A, B), first(G0)), [((1, 2), 1)]), (make(both(A, B), second(G0)), [((1, 2), 2)]),
    (make(func(A, B), G0), [((2, 1), (2, 1))]), (make(func(A, B), both(G0, G0)), [((2, 1), ((2, 1), (2, 1)))]),
    (make(A, make(B, G0)), [(0, (0, 0, 0)), (1, (1, 1, 1))]), (make(A, make(B, G1)), [(1, (0, 1, 2))]),
    (make(A, make(UNIT, G0)), [(1, (1,))]), (make(A, make(C, both(G1, G0))), [(1, ((0, 1),))]),
    (make(A, make(both(A, A), second(G1))), [(0, (0, 1, 0, 1))]),
    (make(A, make(AA, do(G1, G0))), [(0, (0, 0, 1, 1)), (1, (0, 1, 0, 1))]),
    (TWICE, [((1, 0), (0, 1)), ((0, 0), (0, 0)), ((1, 1), (1, 1))]),
    (make(both(func(A, B), A), do(first(G0), second(G0))), [(((2, 1), 0), 2), (((2, 1), 1), 1)]),
    (make(func(UNIT, B), do(G0, NOTHING)), [((2,), 2)]), (make(func(A, UNIT), G0), [(((), ()), ((), ()))]),
    (make(func(both(A, B), B), make(A, make(B, do(G0, both(G1, G2))))),
     [((0, 1, 2, 2, 2, 1), ((0, 1, 2), (2, 2, 1)))]),
    (make(func(A, func(B, B)), make(both(A, B), do(do(G0, first(G1)), second(G1)))),
     [(((0, 1, 2), (2, 2, 1)), (0, 1, 2, 2, 2, 1))]),
    (make(func(A, both(A, B)), both(make(A, first(do(G0, G1))), make(A, second(do(G0, G1))))),
     [(((1, 2), (0, 1)), ((1, 0), (2, 1)))]),
    (make(func(AA, B), do(G0, make(A, G1))), [((0, 1, 2, 0), 1)]),
    (make(func(AA, B), do(G0, make(A, do(make(A, G2), G1)))), [((0, 1, 2, 0), 1)]),
    (make(func(AA, B), make(A, do(G0, make(A, G1)))), [((0, 1, 2, 0), (0, 0)), ((2, 1, 2, 0), (2, 0))]),
    (make(A, do(moved(TWICE, 1), make(A, G0))), [(1, (1, 1)), (0, (0, 0))]),
    (make(AA, do(moved(TWICE, 1), do(moved(TWICE, 1), G0))), [((1, 0), (0, 1)), ((1, 1), (1, 1))]),
    # To leave a thing of three is the sixth one of the functions from and to such.
    (make(func(func(B, B), A), do(G0, make(B, G1))),
     [((0,) * 5 + (1,) + (0,) * 21, 1), ((1,) * 5 + (0,) + (1,) * 21, 0)]),
]


class TestDone(Refusals):
    def test_what_is_written_here(self):
        for at, (term, rows) in enumerate(DONE):
            for worth, told in rows:
                with self.subTest(at=at, worth=worth):
                    self.assertTrue(strictly_the_same(done(term, SIZES, worth), told))

    def test_arguments_are_told_by_name(self):
        self.assertEqual(done(worth=(1, 2), sizes=SIZES, term=SWAP), (2, 1))
        self.assertEqual(done(sizes=SIZES, term=SWAP, worth=(0, 0)), (0, 0))
        self.assertRaises(NoTerm, lambda: done(worth=0, sizes=SIZES, term=None))

    def check_all(self, term, sizes):
        """Whether the term does to all worths what it does on the slow way."""
        (_, takes, gives), rows = slow_term(term, [], sizes)
        for worth, told in zip(slow_worths(takes, sizes), rows, strict=True):
            found = done(term, sizes, worth)
            self.assertTrue(strictly_the_same(found, told), (term, worth))
            self.assertIs(is_worth(gives, sizes, found), True)

    def test_all_worths_against_a_slow_way(self):
        for term, _ in DONE:
            for sizes in (SIZES, ONES, [3, 2, 2] + ONES[3:], [1, 2, 3] + ONES[3:], [2, 1, 2] + ONES[3:]):
                if few(term_kind(term, [])[1], sizes) < 1000:
                    self.check_all(term, sizes)

    def test_terms_put_together_without_any_plan(self):
        some = AnyTerms(random.Random(11))
        found = 0
        while found < 3000:
            sizes = [some.chance.choice([1, 2, 2, 3]) for _ in range(8)]
            takes, gives = some.kind(3), some.kind(2)
            if most_taken(takes, sizes) > 5000 or most_taken(gives, sizes) > 5000 or few(gives, sizes) > 200:
                continue
            try:
                term = some.term(func(takes, gives), [], some.chance.choice([2, 4, 6]))
            except NoneFound:
                continue
            if steps(term, [], sizes) > 5000:
                continue
            self.assertEqual(term_kind(term, []), func(takes, gives))
            self.check_all(term, sizes)
            found += 1

    def test_functions_handed_to_made_functions(self):
        # Numbers as functions that do another one so often: their sums, products and powers.
        often = func(AA, AA)
        two, three = [make(AA, make(A, row)) for row in (do(G0, do(G0, G1)), do(G0, do(G0, do(G0, G1))))]
        times = make(often, make(often, make(AA, do(G0, do(G1, G2)))))
        plus = make(often, make(often, make(AA, make(A, do(do(G0, G2), do(do(G1, G2), G3))))))
        sizes = [7] + ONES[1:]
        step = (1, 2, 3, 4, 5, 6, 0)
        for one, other in itertools.product((1, 2, 3), repeat=2):
            numbers = [[LEAVE_FUNCTION, two, three][n - 1] for n in (one, other)]
            for joined, many in ((times, one * other), (plus, one + other)):
                number = do(do(joined, numbers[0]), numbers[1])
                term = make(AA, do(moved(number, 1), G0))
                self.assertEqual(done(term, sizes, step), tuple((n + many) % 7 for n in range(7)))
                again = make(AA, do(moved(number, 1), do(moved(number, 1), G0)))
                self.assertEqual(done(again, sizes, step), tuple((n + many * many) % 7 for n in range(7)))

    def test_results_are_worths_told_out(self):
        for takes, gives in itertools.product([A, B, UNIT, both(A, UNIT), func(A, B), func(UNIT, A), func(A, UNIT)],
                                              repeat=2):
            leave_first = make(takes, make(gives, G0))
            for worth in slow_worths(takes, SIZES):
                told = done(leave_first, SIZES, worth)
                self.assertTrue(strictly_the_same(told, (worth,) * count(gives, SIZES)))
            leave_second = make(takes, make(gives, G1))
            for worth in slow_worths(takes, SIZES):
                told = done(leave_second, SIZES, worth)
                self.assertTrue(strictly_the_same(told, tuple(slow_worths(gives, SIZES))))

    def test_of_far_more_than_five_thousand_worths_taken_in_all(self):
        sizes = [999, 998, 997] + ONES[3:]
        turn = make(both(A, both(B, C)), both(second(second(G0)), both(first(G0), first(second(G0)))))
        self.assertEqual(done(turn, sizes, (998, (997, 996))), (996, (998, 997)))
        row = tuple(range(998, -1, -1))
        self.assertEqual(done(TWICE, sizes, row), tuple(range(999)))
        self.assertEqual(done(make(A, make(A, make(UNIT, G0))), sizes, 7), ((7,),) * 999)
        # On the way, functions take one after the other of many worths, but few of these come.
        inner = make(A, make(B, make(C, make(B, make(A, both(G1, G5))))))
        for k in (0, 1, 2, 1, 0):
            inner = do(inner, [first(G0), first(second(G0)), second(second(G0))][k])
        term = make(both(A, both(B, C)), inner)
        self.assertEqual(done(term, sizes, (998, (997, 996))), (998, 998))

    def test_what_is_handed_in_is_unchanged_and_looked_at_anew(self):
        sizes = list(SIZES)
        self.assertEqual(done(make(A, make(B, G0)), sizes, 1), (1, 1, 1))
        worth = [0, [1]]
        self.assert_refused(NoWorth, done, LEAVE, sizes, worth)
        self.assertEqual((sizes, worth), (SIZES, [0, [1]]))
        sizes[1] = 2
        self.assertEqual(done(make(A, make(B, G0)), sizes, 1), (1, 1))
        sizes[0] = 1
        self.assert_refused(NoWorth, done, LEAVE, sizes, 1)
        sizes[0] = None
        self.assert_refused(NoSizes, done, LEAVE, sizes, 1)
        sizes[0] = 9
        self.assertEqual(done(LEAVE, sizes, 8), 8)
        for things in ([LEAVE, [2] * 8, [[]]], [LEAVE, [[2]], {}], [[LEAVE], [2] * 8, 1]):
            before = copy.deepcopy(things)
            self.assertRaises((NoTerm, NoSizes, NoWorth), done, *things)
            self.assertEqual(things, before)


def few(kind, sizes):
    """How many worths the kind has, or a thousand times too many."""
    number = count(kind, sizes, 10 ** 6)
    return 10 ** 6 if number is None else number


def most_taken(kind, sizes):
    """The most worths of what a function in the kind takes."""
    if kind[0] in ("base", "unit"):
        return 0
    most = max(most_taken(kind[1], sizes), most_taken(kind[2], sizes))
    return most if kind[0] == "both" else max(most, few(kind[1], sizes))


def steps(term, kinds, sizes):
    """How much there is to be done on the slow way."""
    if term[0] in ("given", "unit"):
        return 1
    if term[0] == "make":
        return few(term[1], sizes) * steps(term[2], kinds + [term[1]], sizes)
    taken = few(term_kind(term[2], kinds), sizes) if term[0] == "do" else 1
    return 1 + taken + sum(steps(part, kinds, sizes) for part in term[1:])


class TestRefusals(Refusals):
    TOO_MANY = make(func(both(G, H), UNIT), G0)
    BAD_SIZES = [None, [1] * 7, [0] * 8, {}, tuple(ONES)]
    BAD_WORTHS = [None, 2, -1, True, False, "0", (), (0,), [0], [], {}, {0}, 0.0, Loud(), Yes(), object(), G0]

    def test_no_term_ahead_of_all_else(self):
        for at, thing in enumerate(no_terms_at_any_depth()):
            with self.subTest(at):
                for sizes in [SIZES] + self.BAD_SIZES[:2]:
                    for worth in (0, (), None, []):
                        self.assert_refused(NoTerm, done, thing, sizes, worth)

    def test_what_is_no_function(self):
        for term in (NOTHING, both(NOTHING, NOTHING), both(LEAVE, LEAVE), first(both(NOTHING, LEAVE)),
                     do(make(UNIT, NOTHING), NOTHING), do(make(UNIT, both(NOTHING, make(A, G1))), NOTHING),
                     second(both(LEAVE, NOTHING)), do(make(AA, NOTHING), LEAVE), both(self.TOO_MANY, LEAVE)):
            term_kind(term, [])
            for sizes in [SIZES] + self.BAD_SIZES:
                self.assert_refused(NoTerm, done, term, sizes, 0)
                self.assert_refused(NoTerm, done, term, sizes, ())

    def test_what_has_a_given(self):
        for term in (G0, given(1), make(A, G1), make(A, make(B, G2)), make(A, both(G0, given(7))), do(G0, NOTHING),
                     first(both(LEAVE, G0)), do(make(UNIT, LEAVE), G0)):
            for sizes in [SIZES] + self.BAD_SIZES:
                self.assert_refused(NoTerm, done, term, sizes, 0)

    def test_a_function_that_is_found_on_the_way_is_one(self):
        leave = make(A, G1)
        for term in (first(both(LEAVE, NOTHING)), second(both(NOTHING, LEAVE)), do(make(UNIT, leave), NOTHING),
                     do(LEAVE_FUNCTION, LEAVE), first(do(make(AA, both(G0, NOTHING)), LEAVE)),
                     do(do(make(UNIT, make(AA, G1)), NOTHING), LEAVE)):
            self.assertEqual([done(term, SIZES, worth) for worth in (0, 1)], [0, 1])

    def test_no_sizes_ahead_of_too_many_and_of_no_worth(self):
        for at, sizes in enumerate(NO_SIZES):
            with self.subTest(at):
                for term in (LEAVE, self.TOO_MANY):
                    for worth in (0, None, []):
                        self.assert_refused(NoSizes, done, term, sizes, worth)

    def test_too_many_ahead_of_no_worth(self):
        for text in ("((g*h)>1)", "((h*g)>c)", "(a*((g*h)>1))", "(((g*h)>1)>1)", "(1>((g*h)>1))", "((1>(g*h))>1)",
                     "(((a*((g*h)>c))>1)>b)", "((((d>d)>d)>c)*a)"):
            kind = read_kind(text)
            for term in (make(kind, G0), make(kind, NOTHING), make(both(A, kind), first(G0)),
                         make(A, make(kind, G0)), make(A, make(both(A, B), make(kind, G0))),
                         make(UNIT, both(NOTHING, make(kind, NOTHING))), do(make(AA, make(kind, NOTHING)), LEAVE)):
                for worth in self.BAD_WORTHS + [0, (), ((),) * 5002]:
                    self.assert_refused(TooMany, done, term, SIZES, worth)

    def test_not_too_many_where_all_it_takes_itself_are_more_or_five_thousand_in_it(self):
        pair = both(G, H)
        self.assertEqual(done(make(pair, second(G0)), SIZES, (81, 60)), 60)
        self.assertEqual(done(make(both(pair, pair), first(G0)), SIZES, ((81, 0), (0, 60))), (81, 0))
        sizes = SIZES[:6] + [50, 100]
        row = ((),) * 5000
        self.assertEqual(done(make(func(pair, UNIT), G0), sizes, row), row)
        self.assertEqual(done(make(A, make(pair, G0)), sizes, 1), (1,) * 5000)
        self.assertEqual(done(make(A, make(pair, second(G1))), sizes, 1), tuple(range(100)) * 50)
        numbers = tuple(n * 7 % 50 for n in range(5000))
        hand = make(both(func(pair, G), pair), do(first(G0), second(G0)))
        self.assertEqual(done(hand, sizes, (numbers, (49, 99))), numbers[4999])
        self.assertEqual(done(hand, sizes, (numbers, (3, 14))), numbers[314])

    def test_no_worth_of_anything(self):
        for at, worth in enumerate(STRAYS + TUPLES_NO_KIND + self.BAD_WORTHS):
            with self.subTest(at):
                if type(worth) is int and worth in (0, 1):
                    continue
                self.assert_refused(NoWorth, done, LEAVE, SIZES, worth)
                self.assert_refused(NoWorth, done, SWAP, SIZES, (worth, 0))
                self.assert_refused(NoWorth, done, TWICE, SIZES, (0, worth))
                self.assert_refused(NoWorth, done, make(both(UNIT, func(A, both(B, A))), NOTHING), SIZES,
                                    ((), ((0, 0), (2, worth))))

    def test_worths_of_other_kinds(self):
        for term, wrong in ((SWAP, [(2, 0), (0, 3), (0,), (0, 0, 0), [0, 0], ((0, 0),), 0, ()]),
                            (TWICE, [(0, 2), (2, 0), (0,), (0, 0, 0), (0, (0,)), (False, True), 1]),
                            (make(UNIT, G0), [0, ((),), [], None]), (make(both(UNIT, A), G0), [(0, ()), ((), 2)]),
                            (make(func(A, UNIT), NOTHING), [(), ((),), ((), (), ()), ((), 0)])):
            for worth in wrong:
                self.assert_refused(NoWorth, done, term, SIZES, worth)


class TestBounds(Refusals):
    def test_deep_and_wide_kinds(self):
        began = time.process_time()
        for kind in list(deep_kinds(100)) + list(wide_kinds()):
            worth, = worths(kind, ONES)
            self.assertEqual(done(make(kind, both(G0, both(NOTHING, G0))), ONES, worth), (worth, ((), worth)))
            self.assertEqual(done(make(kind, make(kind, G0)), ONES, worth), (worth,))
            self.assert_refused(NoWorth, done, make(kind, G0), ONES, (worth,))
        self.assertLess(time.process_time() - began, 60)

    def test_deep_and_wide_terms(self):
        began = time.process_time()
        for term, kinds, kind in list(deep_terms()) + list(wide_terms()):
            self.assertLessEqual(parts_of(term), 2000)
            # All that is given is taken as one thing, and then handed on.
            taken, parts = UNIT, []
            for one in reversed(kinds):
                taken = both(one, taken)
            part = G0
            for _ in kinds:
                parts.append(first(part))
                part = second(part)
            whole = make(taken, put_in(term, parts))
            worth, = worths(taken, ONES)
            told, = worths(kind, ONES)
            self.assertEqual(done(whole, ONES, worth), told)
            try:
                worth = worths(taken, SIZES)[-1]
            except TooMany:
                continue
            if count(kind, SIZES, 10 ** 6) is not None:
                self.assertIs(is_worth(kind, SIZES, done(whole, SIZES, worth)), True)
        self.assertLess(time.process_time() - began, 60)

    def test_many_names_one_within_the_other(self):
        for size in (1, 2, 999):
            self.assertEqual(done(row_of_names(48), [size] + ONES[1:], size - 1), size - 1)

    def test_twice_and_that_twice_and_so_on(self):
        began = time.process_time()
        sizes = [5] + ONES[1:]
        for kind, body, worth in ((A, G1, 4), (both(A, A), both(second(G1), first(G1)), (3, 1)),
                                  (AA, G1, (1, 2, 3, 4, 0)), (UNIT, G1, ()),
                                  (both(AA, A), G1, ((1, 2, 3, 4, 0), 2))):
            self.assertEqual(done(twice_and_again(kind, body, 40), sizes, worth), worth)
        self.assertLess(time.process_time() - began, 20)

    def test_functions_told_out_one_within_the_other(self):
        began = time.process_time()
        takes = func(AA, A)
        term = G1
        for _ in range(45):
            term = do(G0, make(A, term))
        for worth in worths(takes, [2] + ONES[1:]):
            told = done(make(takes, term), [2] + ONES[1:], worth)
            # Within, to leave what is taken is handed on; all else is handed what is always the same.
            found = worth[1]
            for _ in range(44):
                found = worth[3 * found]
            self.assertEqual(told, found)
        self.assertLess(time.process_time() - began, 20)

    def test_the_only_worth_of_many_entries_within_one_another(self):
        began = time.process_time()
        pair = both(A, A)
        all_three = both(G1, both(G2, G3))
        body = do(make(both(pair, both(pair, pair)), NOTHING), all_three)
        told = done(make(UNIT, make(pair, make(pair, make(pair, body)))), [70] + ONES[1:], ())
        for row in (told, told[0], told[4899][77]):
            self.assertIs(type(row), tuple)
            self.assertEqual(len(row), 4900)
        self.assertEqual(told[1][2][3], ())
        self.assertLess(time.process_time() - began, 20)

    def test_functions_that_go_far_deeper_than_terms(self):
        # A step is put behind another thousand times over, each a function of its own.
        ten = make(func(AA, AA), make(AA, nested_do(10)))
        thousand = make(func(AA, AA), do(moved(ten, 1), do(moved(ten, 1), do(moved(ten, 1), G0))))
        put_behind = make(AA, make(A, do(G0, do(G1, G2))))
        term = make(AA, do(do(moved(thousand, 1), put_behind), make(A, G1)))
        self.assertEqual(term_kind(term, []), func(AA, AA))
        sizes = [7] + ONES[1:]
        self.assertEqual(done(term, sizes, (1, 2, 3, 4, 5, 6, 0)), tuple((n + 1000) % 7 for n in range(7)))
        self.assertEqual(done(term, sizes, (2, 0, 1, 4, 3, 5, 6)), (2, 0, 1, 3, 4, 5, 6))


def nested_do(many):
    """The first given done to the second one so often."""
    term = G1
    for _ in range(many):
        term = do(G0, term)
    return term


def put_in(term, parts):
    """The term within a function, with these terms in the places of what it is given."""
    if term[0] == "given":
        if term[1] < len(parts):
            return parts[term[1]]
        return given(term[1] - len(parts) + 1)
    if term[0] == "make":
        return make(term[1], put_in(term[2], parts))
    return term[:1] + tuple(put_in(part, parts) for part in term[1:])


if __name__ == "__main__":
    unittest.main()
