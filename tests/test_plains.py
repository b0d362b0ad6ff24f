"""Tests of plain terms: promise [12], [3] so far as it speaks of what terms do, and [2] and its
bounds for kindswap/plains.py."""

import copy
import itertools
import random
import time
import unittest

from any_terms import AnyTerms, NoneFound
from grown import grown, grown_at_top, is_plain, places
from kindswap import plains
from kindswap.errors import NoKind, NoTerm, TooMany
from kindswap.kinds import read_kind
from kindswap.plains import plain, same
from kindswap.terms import done, term_kind
from samples import (A, B, C, D, NO_KINDS, STRAYS, TUPLES_NO_KIND, UNIT, Refusals, both, deep_kinds, func,
                     hidden_in_kinds, small_kinds, wide_kinds)
from slow import count, slow_plain, slow_worths
from term_samples import (G0, G1, G2, G3, LEAVE, LEAVE_SECOND, NOTHING, SWAP, deep_terms, do, first, given, make,
                          moved, no_terms_at_any_depth, parts_of, row_of_names, second, twice_and_again, wide_terms)

ONES = [1] * 8
AA, AB, PAIR = func(A, A), func(A, B), both(A, B)

# Plain terms, with texts of the kinds that are given.
PLAIN = [
    (G0, "a"), (G1, "a b"), (G2, "a b c"), (first(G0), "(a*b)"), (second(first(G0)), "((a*b)*c)"),
    (do(G0, G1), "(a>b) a"), (do(do(G0, G1), G2), "(a>(b>c)) a b"), (first(do(G0, G1)), "(a>(b*c)) a"),
    (do(first(G0), second(G0)), "((a>b)*a)"), (do(G0, both(first(G1), second(G1))), "((a*b)>c) (a*b)"),
    (do(G0, make(A, do(G1, G2))), "((a>b)>c) (a>b)"), (do(G0, NOTHING), "(1>c) 1"),
    (do(G0, make(A, G1)), "((a>a)>b)"), (do(G0, make(A, G1)), "((a>b)>c) b"),
    (do(G0, do(G0, do(G0, G1))), "(a>a) a"), (NOTHING, ""), (NOTHING, "1"), (NOTHING, "a b"),
    (both(G1, G0), "a b"), (both(G0, G0), "a"), (both(first(G0), second(G0)), "(a*b)"),
    (both(second(G0), first(G0)), "(a*b)"), (both(NOTHING, both(NOTHING, G0)), "a"),
    (both(make(A, do(first(G0), G1)), second(G0)), "((a>b)*c)"), (make(A, G0), ""), (make(A, G1), "b"),
    (make(A, G0), "b"), (make(A, make(B, G0)), ""), (make(A, make(B, G1)), ""), (SWAP, ""), (make(A, NOTHING), ""),
    (make(A, do(G0, G1)), "(a>b)"), (make(A, make(B, do(do(G0, G1), G2))), "(a>(b>c))"),
    (make(AB, do(G0, make(A, do(G1, G2)))), "((a>b)>c)"),
    (make(PAIR, do(G0, both(first(G1), second(G1)))), "((a*b)>c)"),
    (make(func(AA, B), do(G0, make(AA, do(G1, make(A, do(G2, G3)))))), "(((a>a)>b)>c)"),
    (make(AA, make(A, do(G0, do(G0, G1)))), ""), (make(UNIT, NOTHING), "(1>1)"), (make(UNIT, do(G0, NOTHING)), "(1>a)"),
]

# Terms with texts of the kinds that are given, and the plain terms to which they lead.
LEAD = [
    # Each of a pair is both of its first and second, of a function the making of its doing.
    (G0, "(a*b)", both(first(G0), second(G0))), (G0, "(a*(b*1))", both(first(G0), both(first(second(G0)), NOTHING))),
    (G1, "c (a>b)", make(A, do(G1, G2))), (G0, "(a>(b>c))", make(A, make(B, do(do(G0, G1), G2)))),
    (G0, "(a>(b*c))", make(A, both(first(do(G0, G1)), second(do(G0, G1))))),
    (G0, "((a>b)>c)", make(AB, do(G0, make(A, do(G1, G2))))),
    (G0, "((a*b)>c)", make(PAIR, do(G0, both(first(G1), second(G1))))),
    (G0, "((a>b)*c)", both(make(A, do(first(G0), G1)), second(G0))),
    (do(G0, G1), "(a>(b*c)) a", both(first(do(G0, G1)), second(do(G0, G1)))),
    (do(G0, G1), "((a*b)>c) (a*b)", do(G0, both(first(G1), second(G1)))),
    (do(G0, G1), "((a>b)>c) (a>b)", do(G0, make(A, do(G1, G2)))),
    (do(G0, G1), "(a>(b>c)) a", make(B, do(do(G0, G1), G2))), (make(AB, G0), "", make(AB, make(A, do(G0, G1)))),
    (make(PAIR, G0), "", make(PAIR, both(first(G0), second(G0)))),
    (make(AB, G1), "c", make(AB, make(A, do(G1, G2)))),
    # Of the unit the unit.
    (G0, "1", NOTHING), (do(G0, G1), "(a>1) a", NOTHING), (first(G1), "a (1*b)", NOTHING),
    (G0, "(1*1)", both(NOTHING, NOTHING)), (G0, "(a>1)", make(A, NOTHING)), (G0, "(1>1)", make(UNIT, NOTHING)),
    (make(UNIT, G0), "", make(UNIT, NOTHING)), (do(G0, G1), "(1>c) 1", do(G0, NOTHING)),
    (G0, "(1>a)", make(UNIT, do(G0, NOTHING))), (do(make(A, NOTHING), G0), "a", NOTHING),
    # Handed to a made function.
    (do(LEAVE, G0), "a", G0), (do(make(A, G1), G0), "a", G0), (do(make(B, G0), G1), "a b", G0),
    (do(make(B, G2), G1), "a b", G1), (do(make(B, G2), do(G0, G1)), "(a>b) a", do(G0, G1)),
    (do(make(A, both(G1, G1)), G0), "a", both(G0, G0)), (do(make(A, do(do(G0, G2), G2)), G1), "(a>(a>b)) a",
                                                         do(do(G0, G1), G1)),
    (do(make(A, make(B, G1)), G0), "a", make(B, G0)), (do(make(A, make(B, G2)), G0), "a", make(B, G1)),
    (do(do(make(A, make(B, G2)), G0), G1), "a b", G0), (do(do(make(A, make(B, G3)), G0), G1), "a b", G1),
    (make(A, do(make(A, make(B, G1)), G0)), "", make(A, make(B, G0))),
    (make(A, do(make(A, make(B, G2)), G0)), "", make(A, make(B, G1))),
    (make(B, do(make(A, make(B, both(G2, both(G3, G1)))), G0)), "a", make(B, make(B, both(G0, both(G2, G1))))),
    (do(make(AA, do(G1, G0)), make(A, G1)), "a", G0), (do(make(AA, do(G1, do(G1, G0))), make(A, G0)), "a", G0),
    (do(make(AA, make(A, do(G1, do(G1, G2)))), G0), "(a>a)", make(A, do(G0, do(G0, G1)))),
    (do(make(AA, make(A, do(G1, do(G1, G2)))), make(A, do(G0, do(G0, G1)))), "(a>a)",
     make(A, do(G0, do(G0, do(G0, do(G0, G1)))))),
    (do(make(AA, make(A, do(G0, do(G0, G1)))), LEAVE), "", make(A, G0)),
    (do(make(func(A, AA), do(do(G1, G0), G0)), make(A, make(A, G2))), "a", G0),
    (do(make(A, do(make(A, G2), G1)), G0), "a", G0), (make(B, do(make(A, make(A, G2)), G0)), "a", make(B, make(A, G0))),
    (do(G0, make(A, do(make(A, G2), G1))), "((a>a)>b)", do(G0, make(A, G1))),
    # First and second of both.
    (first(both(G0, G1)), "a b", G0), (second(both(G0, G1)), "a b", G1), (first(both(LEAVE, NOTHING)), "", LEAVE),
    (first(second(both(G0, both(G1, G2)))), "a b c", G1), (do(first(both(make(A, G1), NOTHING)), G0), "a", G0),
    (make(PAIR, both(first(both(second(G0), first(G0))), second(G0))), "", make(PAIR, both(second(G0), second(G0)))),
    (do(second(both(G1, G0)), G1), "(a>b) a", do(G0, G1)), (first(do(make(A, both(G1, G0)), G0)), "a", G0),
    (make(A, first(both(do(G0, G1), G1))), "(a>b)", make(A, do(G0, G1))),
    (do(make(PAIR, first(G2)), both(G0, G1)), "a b", G0), (second(both(LEAVE, G0)), "1", NOTHING),
    (make(both(B, A), do(make(PAIR, both(second(G1), first(G1))), both(second(G0), first(G0)))), "",
     make(both(B, A), both(first(G0), second(G0)))),
]


def kinds_of(texts):
    return [read_kind(text) for text in texts.split()]


class TestInterface(unittest.TestCase):
    def test_each_function_is_defined_in_the_file(self):
        for name in ("plain", "same"):
            self.assertEqual(getattr(plains, name).__module__, "kindswap.plains")

    def test_arguments_are_told_by_name(self):
        self.assertEqual(plain(given=[PAIR], term=first(G0)), first(G0))
        self.assertIs(same(given=[A, B], other=G0, one=first(both(G0, G1))), True)
        self.assertIs(same(other=G1, given=[A, A], one=G0), False)
        self.assertRaises(NoKind, lambda: plain(given=None, term=G0))
        self.assertRaises(NoTerm, lambda: same(given=[A], other=None, one=G0))
        self.assertRaises(NoTerm, lambda: same(given=[A], other=G0, one=None))


class TestPlain(Refusals):
    def check(self, term, kinds, told):
        """Whether this is told as the plain term, and plain it is."""
        found = plain(term, kinds)
        self.assertEqual(found, told)
        kind = term_kind(term, kinds)
        self.assertTrue(is_plain(found, kind, kinds))
        self.assertEqual(term_kind(found, kinds), kind)
        self.assertEqual(plain(found, kinds), found)
        self.assertIs(same(term, found, kinds), True)
        self.assertIs(same(found, term, kinds), True)

    def test_plain_terms_lead_to_themselves(self):
        for at, (term, texts) in enumerate(PLAIN):
            with self.subTest(at):
                self.check(term, kinds_of(texts), term)

    def test_terms_that_are_written_here(self):
        for at, (term, texts, told) in enumerate(LEAD):
            with self.subTest(at):
                self.check(term, kinds_of(texts), told)

    def test_more_given_in_front_and_behind(self):
        for term, texts, told in LEAD + [(term, texts, term) for term, texts in PLAIN]:
            kinds = kinds_of(texts)
            for front in ([D], [UNIT, PAIR], [AB, both(D, D), A]):
                self.check(moved(term, len(front)), front + kinds, moved(told, len(front)))
            # What is given behind takes the numbers of what functions in the term are given.
            function = make(A, moved_within(term, len(kinds)))
            self.check(function, kinds, make(A, moved_within(told, len(kinds))))

    def test_within_one_another(self):
        rows = [(term, kinds_of(texts), told) for term, texts, told in LEAD]
        for (term, kinds, told), (other, other_kinds, other_told) in itertools.product(rows, repeat=2):
            if kinds == other_kinds:
                self.check(both(term, other), kinds, both(told, other_told))
                self.check(first(both(term, other)), kinds, told)
                self.check(second(both(term, other)), kinds, other_told)
                self.check(do(make(term_kind(other, kinds), moved_within(term, len(kinds))), other), kinds, told)

    def test_all_that_is_given_of_all_small_kinds(self):
        for leaves in (1, 2, 3, 4):
            for kind in small_kinds(leaves, [UNIT, A, B] if leaves < 4 else [UNIT, A]):
                self.check(G1, [C, kind], slow_plain(G1, [C, kind]))
                self.check(make(kind, G1), [C], slow_plain(make(kind, G1), [C]))

    def test_terms_put_together_without_any_plan(self):
        some = AnyTerms(random.Random(12))
        found = 0
        while found < 1500:
            kinds = [some.kind(2) for _ in range(some.chance.randrange(4))]
            try:
                term = some.term(some.kind(3), kinds, some.chance.choice([2, 4, 6, 8]))
            except NoneFound:
                continue
            self.check(term, kinds, slow_plain(term, kinds))
            found += 1

    def test_terms_grown_by_one_step_lead_back(self):
        for term, texts in PLAIN:
            kinds = kinds_of(texts)
            for part, part_kinds, put in list(places(term, kinds)):
                for other in [NOTHING, LEAVE_SECOND] + [given(k) for k in range(len(part_kinds))]:
                    if other == LEAVE_SECOND:
                        other = make(A, given(len(part_kinds)))
                    for grown_part in grown_at_top(part, part_kinds, other):
                        self.check(put(grown_part), kinds, term)

    def test_terms_grown_by_several_steps_lead_back(self):
        chance = random.Random(1)
        for term, texts in PLAIN * 6:
            kinds = kinds_of(texts)
            many = chance.choice([2, 3, 5, 8, 12])
            self.check(grown(term, kinds, chance, many), kinds, term)

    def test_what_is_given_is_unchanged_and_looked_at_anew(self):
        kinds = [A, PAIR]
        self.assertEqual(plain(G1, kinds), both(first(G1), second(G1)))
        self.assertIs(same(G0, first(G1), kinds), False)
        self.assertEqual(kinds, [A, PAIR])
        kinds[1] = AB
        self.assertEqual(plain(G1, kinds), make(A, do(G1, G2)))
        self.assertIs(same(G1, make(A, do(G1, G2)), kinds), True)
        kinds[1] = UNIT
        self.assertEqual(plain(G1, kinds), NOTHING)
        self.assertIs(same(G1, NOTHING, kinds), True)
        kinds.append(A)
        self.assertEqual(plain(make(A, G3), kinds), make(A, G3))
        kinds.pop()
        kinds.pop()
        self.assert_refused(NoTerm, plain, G1, kinds)
        self.assert_refused(NoTerm, same, G0, G1, kinds)
        kinds[0] = None
        self.assert_refused(NoKind, plain, G0, kinds)
        self.assertEqual(kinds, [None])


def moved_within(term, many):
    """The term within a function, where so many things are given outside."""
    if term[0] == "given":
        return term if term[1] < many else given(term[1] + 1)
    if term[0] == "make":
        return make(term[1], moved_within(term[2], many))
    return term[:1] + tuple(moved_within(part, many) for part in term[1:])


class TestSame(Refusals):
    def test_the_same_and_others_of_all_that_are_written_here(self):
        rows = [(term, kinds_of(texts), told) for term, texts, told in LEAD]
        rows += [(term, kinds_of(texts), term) for term, texts in PLAIN]
        for (term, kinds, told), (other, other_kinds, other_told) in itertools.product(rows, repeat=2):
            if kinds == other_kinds:
                # The plain terms tell the kinds of what they take, but a base's or the unit's term none.
                alike = told == other_told and term_kind(term, kinds) == term_kind(other, kinds)
                self.assertIs(same(term, other, kinds), alike)
                self.assertIs(same(make(C, moved_within(term, len(kinds))), make(C, moved_within(other, len(kinds))),
                                   kinds), alike)

    def test_of_unlike_kinds_it_is_false(self):
        for one, other, texts in (
                (G0, G1, "a b"), (LEAVE, make(B, G0), ""), (NOTHING, LEAVE, ""),
                (make(A, NOTHING), make(B, NOTHING), ""),
                (G0, G1, "(a*b) (b*a)"), (G0, first(G0), "(a*a)"), (G0, both(G0, NOTHING), "a"), (NOTHING, G0, "a"),
                (NOTHING, both(NOTHING, NOTHING), ""), (G0, make(UNIT, G0), "a"), (G0, make(A, G0), "1"),
                (G0, G1, "1 (1*1)"), (G0, G1, "(a>1) (b>1)"), (G0, G1, "(1>a) a")):
            kinds = kinds_of(texts)
            self.assertIs(same(one, other, kinds), False)
            self.assertIs(same(other, one, kinds), False)

    def test_grown_terms_are_the_same_and_other_ones_are_not(self):
        chance = random.Random(2)
        rows = [(AA, "(a>a) a"), (func(AA, AA), ""), (both(A, A), "a a"), (A, "a a"), (func(both(A, A), A), "(a>a)")]
        for kind, texts in rows:
            kinds = kinds_of(texts)
            ways = list(itertools.islice(plain_terms(kind, kinds, 3), 12))
            self.assertGreater(len(ways), 1)
            for one, other in itertools.product(ways, repeat=2):
                big, other_big = grown(one, kinds, chance, 4), grown(other, kinds, chance, 4)
                self.assertIs(same(big, other_big, kinds), one == other)
                self.assertIs(same(other_big, big, kinds), one == other)
                self.assertIs(same(big, other, kinds), one == other)


def plain_terms(kind, kinds, deep):
    """Plain terms of the kind, made of bases, their pairs and functions alone."""
    if kind[0] == "both":
        for one in plain_terms(kind[1], kinds, deep):
            for other in plain_terms(kind[2], kinds, deep):
                yield both(one, other)
    elif kind[0] == "from":
        for body in plain_terms(kind[2], kinds + [kind[1]], deep):
            yield make(kind[1], body)
    elif deep > 0:
        for k, one in enumerate(kinds):
            if one == kind:
                yield given(k)
            elif one == both(kind, kind):
                yield from (first(given(k)), second(given(k)))
            elif one == func(kind, kind):
                for handed in plain_terms(kind, kinds, deep - 1):
                    yield do(given(k), handed)


def few(kind, sizes):
    """Whether the kind has so few worths that a term is done to each of them."""
    number = count(kind, sizes, 10 ** 6)
    return number is not None and number <= 100


class TestWhatTermsDo(Refusals):
    SIZES = [2, 3, 1, 1, 1, 1, 1, 1]

    def rows(self, term, takes, sizes):
        return [done(term, sizes, worth) for worth in slow_worths(takes, sizes)]

    def test_what_a_term_does_is_what_its_plain_one_does(self):
        some = AnyTerms(random.Random(3))
        found = 0
        while found < 400:
            takes, gives = some.kind(2), some.kind(2)
            try:
                term = some.term(func(takes, gives), [], some.chance.choice([2, 4, 6]))
                told = plain(term, [])
                for sizes in (self.SIZES, [1, 2, 2] + ONES[3:], [3, 1, 2] + ONES[3:]):
                    if few(takes, sizes):
                        self.assertEqual(self.rows(term, takes, sizes), self.rows(told, takes, sizes))
            except (NoneFound, TooMany):
                continue
            found += 1

    def test_the_same_terms_do_the_same_and_what_do_unlike_are_not_the_same(self):
        some = AnyTerms(random.Random(4))
        alike = unlike = 0
        kinds = [func(A, func(A, A)), func(AA, AA), func(both(A, A), both(A, A)), func(func(AA, A), A),
                 func(both(AA, A), A), func(A, func(func(A, B), B)), func(both(PAIR, PAIR), PAIR),
                 func(func(UNIT, A), func(both(A, UNIT), A))]
        while alike < 300 or unlike < 300:
            kind = some.chance.choice(kinds)
            try:
                one, other = [some.term(kind, [], some.chance.choice([2, 3, 4])) for _ in range(2)]
            except NoneFound:
                continue
            rows = [sizes for sizes in (self.SIZES, [3, 2] + ONES[2:]) if few(kind[1], sizes)]
            did = [[self.rows(term, kind[1], sizes) for sizes in rows] for term in (one, other)]
            told = same(one, other, [])
            self.assertIs(same(other, one, []), told)
            if told:
                self.assertEqual(did[0], did[1])
                alike += 1
            if did[0] != did[1]:
                self.assertIs(told, False)
                unlike += 1


class TestRefusals(Refusals):
    NO_LISTS = STRAYS + TUPLES_NO_KIND + [(), (A,), (A, B), A, UNIT, "", "a", "ab", {}, {0: A}, {"a": A}, iter([A])]

    def test_no_term(self):
        for at, thing in enumerate(no_terms_at_any_depth()):
            with self.subTest(at):
                for kinds in ([], [UNIT, PAIR, func(UNIT, UNIT)]):
                    self.assert_refused(NoTerm, plain, thing, kinds)
                    self.assert_refused(NoTerm, same, thing, NOTHING, kinds)
                    self.assert_refused(NoTerm, same, NOTHING, thing, kinds)
                    self.assert_refused(NoTerm, same, LEAVE, thing, kinds)
                    self.assert_refused(NoTerm, same, thing, thing, kinds)

    def test_no_term_where_it_is_not_needed(self):
        for wrong in (None, (), G2, first(NOTHING), make(None, NOTHING), do(NOTHING, NOTHING), ["unit"]):
            for term in (do(make(UNIT, NOTHING), wrong), first(both(NOTHING, wrong)), both(NOTHING, wrong),
                         second(both(wrong, NOTHING)), make(UNIT, do(make(A, NOTHING), wrong))):
                self.assert_refused(NoTerm, plain, term, [A])
                self.assert_refused(NoTerm, same, term, NOTHING, [A])
                self.assert_refused(NoTerm, same, G0, term, [A])

    def test_no_list_of_kinds_ahead_of_no_term(self):
        for at, kinds in enumerate(self.NO_LISTS):
            with self.subTest(at):
                for term in (NOTHING, G0, None, [], first(NOTHING), make(None, G0)):
                    self.assert_refused(NoKind, plain, term, kinds)
                    self.assert_refused(NoKind, same, term, NOTHING, kinds)
                    self.assert_refused(NoKind, same, NOTHING, term, kinds)
                    self.assert_refused(NoKind, same, term, term, kinds)

    def test_a_list_in_which_something_is_no_kind(self):
        for at, thing in enumerate(NO_KINDS):
            with self.subTest(at):
                for wrong in [thing] + list(hidden_in_kinds(thing)):
                    for kinds in ([wrong], [A, wrong], [wrong, A], [A, wrong, B]):
                        for term in (NOTHING, None):
                            self.assert_refused(NoKind, plain, term, kinds)
                            self.assert_refused(NoKind, same, term, NOTHING, kinds)

    def test_what_is_handed_in_is_unchanged(self):
        for things in ([[], {}], [("both", [NOTHING], NOTHING), [A]], [NOTHING, [A, [B]]], [SWAP, [A]]):
            for function, more in ((plain, things), (same, [NOTHING] + things), (same, [things[0]] + things)):
                before = copy.deepcopy(more)
                try:
                    function(*more)
                except (NoKind, NoTerm):
                    pass
                self.assertEqual(more, before)


class TestBounds(Refusals):
    def check(self, term, kinds):
        found = plain(term, kinds)
        self.assertIs(same(term, found, kinds), True)
        self.assertEqual(plain(found, kinds), found)
        return found

    def test_deep_and_wide_terms(self):
        began = time.process_time()
        for term, kinds, kind in list(deep_terms()) + list(wide_terms()):
            self.assertLessEqual(parts_of(term), 2000)
            found = plain(term, kinds)
            if parts_of(found) <= 2000:
                self.assertEqual(self.check(term, kinds), found)
                self.assertEqual(term_kind(found, kinds), kind)
        self.assertLess(time.process_time() - began, 30)

    def test_deep_and_wide_kinds(self):
        began = time.process_time()
        for kind in list(deep_kinds(100)) + list(wide_kinds()):
            found = plain(G0, [kind])
            self.assertIs(same(first(both(G0, NOTHING)), do(make(kind, G1), G0), [kind]), True)
            self.assertIs(same(make(kind, G0), make(kind, first(both(G0, G0))), []), True)
            if parts_of(found) <= 2000:
                self.assertEqual(self.check(G0, [kind]), found)
                self.assertEqual(plain(make(kind, G0), []), make(kind, found))
        self.assertLess(time.process_time() - began, 60)

    def test_many_names_one_within_the_other(self):
        self.assertEqual(plain(row_of_names(49), []), LEAVE)

    def test_plain_terms_far_deeper_than_the_terms(self):
        often = make(AA, make(A, nested_do(9)))
        much = do(do(moved(often, 2), do(moved(often, 2), do(moved(often, 2), G0))), G1)
        found = plain(much, [AA, A])
        # Python compares no tuples so deep.
        for _ in range(729):
            word, function, found = found
            self.assertEqual((word, function), ("do", G0))
        self.assertEqual(found, G1)
        more = do(G0, much)
        for one, other, told in ((much, much, True), (much, more, False), (more, much, False), (more, more, True),
                                 (more, do(make(A, do(moved_within(much[1], 2), G2)), do(G0, G1)), True)):
            self.assertIs(same(one, other, [AA, A]), told)

    def test_twice_and_that_twice_and_so_on(self):
        began = time.process_time()
        for kind, body in ((A, G1), (both(A, A), both(second(G1), first(G1))), (AA, G1), (UNIT, G1), (both(AA, A), G1)):
            self.assertEqual(plain(twice_and_again(kind, body, 40), []), plain(make(kind, G0), []))
        self.assertLess(time.process_time() - began, 20)

    def test_what_is_far_too_much_and_not_needed(self):
        began = time.process_time()
        much = doubled(40)
        for term in (do(make(A, G1), much), first(both(G1, much)), do(make(A, first(both(G1, G2))), much),
                     do(make(both(A, A), first(G2)), both(G1, much)), do(do(make(A, make(A, G2)), G1), much),
                     do(make(A, do(make(A, G1), G2)), much), second(do(make(A, both(G2, G1)), much))):
            self.assertEqual(plain(term, [AA, A]), G1)
        self.assertEqual(plain(do(make(A, NOTHING), much), [AA, A]), NOTHING)
        self.assertEqual(plain(do(make(A, both(NOTHING, make(B, NOTHING))), much), [AA, A]),
                         both(NOTHING, make(B, NOTHING)))
        self.assertLess(time.process_time() - began, 20)


def nested_do(many):
    """The first given done to the second one so often."""
    term = G1
    for _ in range(many):
        term = do(G0, term)
    return term


def doubled(many):
    """The first given done to the second one as often as two to the power of the number, by names
    for functions that do what is done before twice."""
    term = do(given(many + 1), G1)
    for k in reversed(range(many)):
        before = G0 if k == 0 else given(k + 1)
        term = do(make(AA, term), make(A, do(before, do(before, given(k + 2)))))
    return term


if __name__ == "__main__":
    unittest.main()
