"""Tests of the whole program: promises [1] to [3], from texts to the things that are found."""

import copy
import itertools
import random
import unittest

from grown import grown, turned_often
from kindswap.counts import apart, apart_fault, many, rest
from kindswap.errors import SwapError, TooMany, Unlike
from kindswap.forms import alike, form, kind_of
from kindswap.kinds import is_kind, kind_text, read_kind
from kindswap.libraries import search, search_fault
from kindswap.plains import plain, same
from kindswap.terms import done, term_kind
from kindswap.turners import turn_fault, turner
from kindswap.worths import is_worth, worths
from samples import A, ALIKE_ROWS, B, UNIT, small_kinds
from term_samples import G0, LEAVE, do, make, moved

ONES = [1] * 8
ROWS = [[2, 3, 1, 2, 1, 1, 1, 1], [3, 2, 2] + ONES[3:], [1, 2, 3] + ONES[3:], ONES]

LIBRARY = [
    ("take", "((a>b)>(a>b))"), ("hand", "(((a>b)*a)>b)"), ("swap", "((a*b)>(b*a))"), ("pair", "(b>(a>(a*b)))"),
    ("first", "((a*b)>a)"), ("forget", "(a>(b>1))"), ("fold", "((a>(b>b))>(b>b))"), ("leave", "(1>(a>a))"),
]


def few_worths(kind):
    """All worths of the kind by each sizes by which these are few."""
    for sizes in ROWS:
        try:
            found = worths(kind, sizes)
        except TooMany:
            continue
        if len(found) <= 256:
            yield sizes, found


class TestWhole(unittest.TestCase):
    def check_turners(self, one, other, there, back):
        """Whether the terms turn all worths of small sizes there and back."""
        self.assertIsNone(turn_fault(one, other, there, back))
        for sizes, found in few_worths(one):
            told = [done(there, sizes, worth) for worth in found]
            self.assertTrue(all([is_worth(other, sizes, worth) for worth in told]))
            self.assertEqual(sorted(told), worths(other, sizes))
            self.assertEqual([done(back, sizes, worth) for worth in told], found)
            self.assertEqual(many(one, sizes), many(other, sizes))

    def test_from_texts_to_things_found(self):
        library = [(name, read_kind(text)) for name, text in LIBRARY]
        for text, names in (
                ("(b>((b>(1>a))>a))", []), ("((a*(1*(a>b)))>b)", ["take", "hand"]), ("(b>(a>(b*a)))", ["swap", "pair"]),
                ("(a>a)", ["first", "leave"]), ("1", ["forget"]), ("(b>b)", ["fold"]), ("(a>1)", ["forget"]),
                ("(b*a)", ["swap", "pair"]), ("b", ["take", "hand", "fold"]), ("a", ["first", "leave"]),
                ("(a*(a*b))", [])):
            kind = read_kind(text)
            found = search(library, kind)
            with self.subTest(text):
                self.assertEqual([row[0] for row in found], names)
                for name, wants, there, back in found:
                    wished = ("from", kind_of(wants), kind) if wants else kind
                    self.check_turners(dict(library)[name], wished, there, back)
                    self.assertIsNone(search_fault(library, kind, name, (wants, there, back)))
                for name, thing in library:
                    if name not in names:
                        self.assertIsNone(apart_fault(thing, kind, apart(thing, kind)))

    def test_alike_just_where_the_numbers_of_worths_are_the_same(self):
        kinds = [kind for leaves in (1, 2) for kind in small_kinds(leaves, [UNIT, A, B])] + small_kinds(3, [A, B])[::2]
        for one, other in itertools.product(kinds, repeat=2):
            told = apart(one, other)
            self.assertIs(alike(one, other), told is None)
            self.assertIs(form(one) == form(other), told is None)
            if told is None:
                self.check_turners(one, other, turner(one, other), turner(other, one))
                continue
            sizes, by = told
            self.assertNotEqual(rest(one, sizes, by), rest(other, sizes, by))
            self.assertRaises(Unlike, turner, one, other)

    def test_alike_kinds_by_texts(self):
        for row in ALIKE_ROWS:
            kinds = [read_kind(text) for text in row]
            for one, other in itertools.product(kinds, repeat=2):
                self.check_turners(one, other, turner(one, other), turner(other, one))
                self.assertEqual(read_kind(kind_text(kind_of(form(one)))), kind_of(form(other)))

    def test_what_terms_do_is_what_their_plain_ones_do(self):
        chance = random.Random(18)
        for row in ALIKE_ROWS:
            for text in row[:3]:
                one = read_kind(text)
                other = turned_often(one, chance, 4)
                there = turner(one, other)
                big = grown(there, [], chance, 4)
                self.assertEqual(plain(big, []), there)
                self.assertIs(same(big, there, []), True)
                for sizes, found in few_worths(one):
                    for worth in found:
                        self.assertEqual(done(big, sizes, worth), done(there, sizes, worth))

    def test_what_was_told_is_handed_in_again(self):
        for text in ("((a*b)>(c*(a>b)))", "(((a>b)*c)>(a*a))", "((a>(b>c))>((a*b)>c))"):
            kind = read_kind(text)
            other = kind_of(form(kind))
            there, back = turner(kind, other), turner(other, kind)
            again = make(kind, do(moved(back, 1), do(moved(there, 1), G0)))
            self.assertIsNone(turn_fault(kind, kind, again, plain(again, [])))
            self.assertEqual(term_kind(again, []), ("from", kind, kind))
            self.assertIs(is_kind(term_kind(there, [])), True)
            made = term_kind(there, [])
            self.check_turners(made, made, turner(made, made), turner(made, made))
            found = search([("x", made)], other)
            self.assertEqual([row[1] for row in found], [form(kind)])

    def test_nothing_that_is_handed_in_is_changed(self):
        library = [(name, read_kind(text)) for name, text in LIBRARY]
        sizes, told = list(ROWS[0]), apart(A, B)
        given = [A, ("both", A, B)]
        wants = [((), 0)]
        before = copy.deepcopy((library, sizes, told, given, wants))
        for call in (lambda: search(library, A), lambda: search(library, None), lambda: search(library + [None], A),
                     lambda: search_fault(library, A, "leave", (wants, LEAVE, LEAVE)), lambda: kind_of(wants),
                     lambda: search_fault(library, A, None, (wants, LEAVE, LEAVE)), lambda: plain(G0, given),
                     lambda: same(G0, ("given", 1), given), lambda: plain(None, given), lambda: same(G0, None, given),
                     lambda: term_kind(G0, given), lambda: apart_fault(A, B, told), lambda: many(A, sizes),
                     lambda: rest(A, sizes, 7), lambda: worths(A, sizes), lambda: is_worth(A, sizes, 0),
                     lambda: done(LEAVE, sizes, 1), lambda: done(LEAVE, sizes, wants), lambda: rest(A, sizes, wants),
                     lambda: turn_fault(A, A, LEAVE, wants), lambda: turn_fault(A, A, library, wants)):
            tellings = []
            for _ in range(2):
                try:
                    tellings.append(call())
                except SwapError as refusal:
                    tellings.append(type(refusal))
            self.assertEqual(tellings[0], tellings[1])
            self.assertEqual((library, sizes, told, given, wants), before)


if __name__ == "__main__":
    unittest.main()
