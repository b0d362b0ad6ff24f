"""Tests of libraries: promises [14] and [15], [3] so far as it speaks of what is found, and [2]
and its bounds for kindswap/libraries.py."""

import copy
import itertools
import random
import time
import unittest

from grown import turned, turned_often
from kindswap import libraries
from kindswap.counts import apart, apart_fault
from kindswap.errors import NoKind, NoLibrary, NoName
from kindswap.forms import alike, form, kind_of
from kindswap.kinds import kind_text, read_kind
from kindswap.libraries import search, search_fault
from kindswap.terms import term_kind
from kindswap.turners import turn_fault, turner
from samples import (A, B, C, D, H, NO_KINDS, STRAYS, TUPLES_NO_KIND, UNIT, Loud, Refusals, Yes, both, deep_kinds, func,
                     hidden_in_kinds, no_kinds_at_any_depth, small_kinds, wide_kinds)
from term_samples import G0, LEAVE, NO_TERMS, NOTHING, make, parts_of

# A library, what is wished, and the names found with texts of what they want.
TEXTS = {
    "leave": "(a>a)", "swap": "((a*b)>(b*a))", "map": "((a>b)>(c>d))", "map 2": "(c>((a>b)>d))",
    "zip": "(c>(d>e))", "pair": "(a*b)", "riap": "(b*(1*a))", "nothing": "1", "forget": "(a>1)", "both": "(a>(b*c))",
    "split": "((a>b)*(a>c))", "add": "(a>(a>a))", "add 3": "((a*a)>(a>a))", "two": "(a*a)", "one of two": "((a*a)>a)",
    "fold": "((a>(b>b))>(b>(c>b)))", "dlof": "(c>((b>(a>b))>(b>b)))", "a": "a", "b": "b", "from b": "(b>a)",
    "from nothing": "(1>a)", "two from b": "(b>(a*a))", "one from b": "(a*(b>a))", "from a function": "((a>a)>a)",
}
SEARCHES = [
    ("a", {"leave": "a", "add": "(a*a)", "add 3": "(a*(a*a))", "one of two": "(a*a)", "a": "1", "from b": "b",
           "from nothing": "1", "from a function": "(a>a)"}),
    ("(a>a)", {"leave": "1", "add": "a", "add 3": "(a*a)", "one of two": "a"}),
    ("((a*a)>a)", {"add": "1", "add 3": "a", "one of two": "1"}), ("((a*(a*a))>a)", {"add 3": "1"}),
    ("1", {"nothing": "1", "forget": "1"}), ("(h>1)", {"nothing": "1", "forget": "1"}),
    ("(a*b)", {"swap": "(a*b)", "pair": "1", "riap": "1"}), ("(b*a)", {"swap": "(a*b)", "pair": "1", "riap": "1"}),
    ("(a*a)", {"two": "1", "two from b": "b"}), ("(a*(1*a))", {"two": "1", "two from b": "b"}),
    ("(c*b)", {"both": "a", "split": "a"}), ("(a>(b*c))", {"both": "1", "split": "1"}), ("(b*d)", {}),
    ("d", {"map": "(c*(a>b))", "map 2": "(c*(a>b))"}), ("((a>b)>d)", {"map": "c", "map 2": "c"}),
    ("(c>d)", {"map": "(a>b)", "map 2": "(a>b)"}), ("((c*(a>b))>d)", {"map": "1", "map 2": "1"}),
    ("e", {"zip": "(c*d)"}), ("(c>e)", {"zip": "d"}), ("(d>e)", {"zip": "c"}), ("((d*c)>e)", {"zip": "1"}),
    ("(c>b)", {"fold": "(b*((a*b)>b))", "dlof": "(b*((a*b)>b))"}),
    ("(((b*a)>b)>b)", {"fold": "(b*c)", "dlof": "(b*c)"}), ("(b>a)", {"from b": "1"}),
    ("(b>(a*a))", {"two from b": "1"}),
    ("((b>a)*a)", {"one from b": "1"}), ("b", {"b": "1", "fold": "(b*(c*((a*b)>b)))", "dlof": "(b*(c*((a*b)>b)))"}),
    ("h", {}), ("(a>b)", {}), ("(a*(a*a))", {}),
]


def rows_of(texts):
    return [(name, read_kind(text)) for name, text in texts.items()]


LIBRARY = rows_of(TEXTS)


def function_of(wants, kind):
    return func(kind_of(wants), kind) if wants else kind


def slow_wants(thing, kind):
    """The first form that does, of all that could do; None where none does."""
    tried = [[]]
    for wants, _ in form(thing):
        for many in range(len(wants) + 1):
            tried += [list(some) for some in itertools.combinations(wants, many)]
    # Where nothing is wished, whatever else is wanted does as well.
    tried += [[((), 0)], [((), 3), ((), 3)]]
    for wants in sorted(tried, key=lambda wants: (len(wants), wants)):
        if alike(thing, function_of(wants, kind)):
            return wants
    return None


class Searches(Refusals):
    def check(self, library, kind):
        """Whether what is told is found as the document tells it; what is told."""
        before = list(library)
        found = search(library, kind)
        self.assertEqual(library, before)
        self.assertIs(type(found), list)
        expected = [(name, slow_wants(thing, kind)) for name, thing in library]
        self.assertEqual([(row[0], row[1]) for row in found], [row for row in expected if row[1] is not None])
        kinds = dict(library)
        for row in found:
            self.assertIs(type(row), tuple)
            name, wants, there, back = row
            self.assertIs(type(wants), list)
            one, other = kinds[name], function_of(wants, kind)
            self.assertIsNone(turn_fault(one, other, there, back))
            self.assertEqual((there, back), (turner(one, other), turner(other, one)))
            self.assertIsNone(search_fault(library, kind, name, (wants, there, back)))
        self.assertEqual(search(library, kind), found)
        return found


class TestInterface(unittest.TestCase):
    def test_each_function_is_defined_in_the_file(self):
        for name in ("search", "search_fault"):
            self.assertEqual(getattr(libraries, name).__module__, "kindswap.libraries")

    def test_arguments_are_told_by_name(self):
        found = search(kind=A, library=[("x", B), ("y", A)])
        self.assertEqual(found, [("y", [], LEAVE, LEAVE)])
        told = ([], LEAVE, LEAVE)
        self.assertIsNone(search_fault(thing=told, name="y", kind=A, library=[("x", B), ("y", A)]))
        self.assertEqual(search_fault(name="x", thing=told, library=[("x", B), ("y", A)], kind=A), ("kind", 0))
        self.assertRaises(NoLibrary, lambda: search(kind=A, library=None))
        self.assertRaises(NoKind, lambda: search(kind=None, library=[]))
        self.assertRaises(NoName, lambda: search_fault(thing=told, name="z", kind=A, library=[]))


class TestSearch(Searches):
    def test_searches_that_are_written_here(self):
        for text, told in SEARCHES:
            with self.subTest(text):
                found = self.check(LIBRARY, read_kind(text))
                self.assertEqual({row[0]: kind_text(kind_of(row[1])) for row in found}, told)
                self.assertEqual([row[0] for row in found], [name for name, _ in LIBRARY if name in told])

    def test_all_small_kinds(self):
        kinds = small_kinds(1, [UNIT, A, B]) + small_kinds(2, [UNIT, A, B]) + small_kinds(3, [A, B])
        library = [(str(at), kind) for at, kind in enumerate(kinds[::5][:30])]
        for kind in kinds:
            self.check(library, kind)

    def test_things_made_to_be_found(self):
        chance = random.Random(15)
        parts = small_kinds(1, [UNIT, A, B, C]) + small_kinds(2, [A, B, UNIT]) + small_kinds(3, [A, B])
        for _ in range(300):
            kind, more = chance.choice(parts), chance.choice(parts)
            library = [("x", turned_often(func(more, kind), chance, 4)), ("y", turned_often(kind, chance, 3)),
                       ("z", turned_often(both(func(more, kind), func(more, A)), chance, 2))]
            found = self.check(library, turned_often(kind, chance, 2))
            self.assertEqual([row[0] for row in found][:2], ["x", "y"])
            self.assertEqual(found[0][1], form(more) if form(kind) else [])
            self.assertEqual(found[1][1], [])

    def test_things_that_can_be_looked_at_in_several_ways(self):
        for thing, kind, wants in (
                ("((a*(a*a))>a)", "(a>a)", "(a*a)"), ("((a>b)>((a>b)>b))", "((a>b)>b)", "(a>b)"),
                ("((a>a)*((a*a)>a))", "(a*(a>a))", "a"), ("((a>b)*((a*a)>b))", "((a>b)*b)", "a"),
                ("(((a*b)>c)*((a*(b*b))>c))", "((a>c)*((a*b)>c))", "b"),
                ("(((a*b)>c)*((a*(b*b))>c))", "((b>c)*((b*b)>c))", "a"),
                ("(((a*b)>c)*((a*(b*b))>c))", "(c*(b>c))", "(a*b)"),
                ("((a>b)*((b>a)*((a*b)>b)))", "((a>b)*((b>a)*((a*b)>b)))", "1"),
                ("((b>(a*a))*(b>a))", "(a*(a*a))", "b"), ("(((a>b)>c)*((a>b)>c))", "(c*c)", "(a>b)"),
                ("(a>(b*(b*(c*c))))", "((c*b)*(b*c))", "a"), ("((a*a)>(b*(a>c)))", "((a>b)*((a*a)>c))", "a"),
                ("((a*a)>(b*(a>c)))", "(b*(a>c))", "(a*a)"), ("((a*a)>(b*(a>c)))", "(b*((a*a)>c))", None),
                ("((a*b)>(c*(b>c)))", "((a>c)*((a*b)>c))", "b"), ("((a>b)*(c>b))", "(b*b)", None),
                ("((a>b)*(a>b))", "(b*(a>b))", None), ("((a*b)>c)", "((a*a)>c)", None), ("(a>b)", "((a*a)>b)", None),
                ("(a>(b*c))", "(b*b)", None), ("(a*b)", "a", None), ("a", "(a*a)", None), ("a", "1", None),
                ("1", "a", None), ("(a>1)", "(b>1)", "1"), ("(a*(a>a))", "(a*(a>a))", "1"),
                ("((a>b)>c)", "(b>c)", None),
                ("((a>b)>c)", "(a>c)", None), ("(a>((a>b)>c))", "((a>b)>c)", "a"), ("(a>((a>b)>c))", "(a>c)", "(a>b)")):
            with self.subTest(thing=thing, kind=kind):
                found = self.check([("x", read_kind(thing))], read_kind(kind))
                self.assertEqual([kind_text(kind_of(row[1])) for row in found], [] if wants is None else [wants])

    def test_none_one_and_thirty_things(self):
        self.assertEqual(search([], A), [])
        self.assertEqual(search([], UNIT), [])
        self.assertEqual(search([("x", B)], A), [])
        self.assertEqual(search([("", A)], A), [("", [], LEAVE, LEAVE)])
        thirty = [(f"thing {k}", kind) for k, (_, kind) in enumerate((LIBRARY * 2)[:30])]
        for text, told in SEARCHES:
            self.check(thirty, read_kind(text))
        self.assertEqual(len(search([(str(k), A) for k in range(30)], A)), 30)

    def test_a_library_cut_in_two(self):
        for text, _ in SEARCHES:
            kind = read_kind(text)
            for at in (0, 1, 7, len(LIBRARY)):
                self.assertEqual(search(LIBRARY[:at], kind) + search(LIBRARY[at:], kind), search(LIBRARY, kind))
            self.assertEqual(search(LIBRARY[::-1], kind), search(LIBRARY, kind)[::-1])

    def test_alike_kinds_in_place_of_each_one(self):
        chance = random.Random(16)
        for text, _ in SEARCHES:
            kind = read_kind(text)
            library = [(name, turned_often(thing, chance, 3)) for name, thing in LIBRARY]
            found = self.check(library, turned_often(kind, chance, 3))
            self.assertEqual([row[:2] for row in found], [row[:2] for row in search(LIBRARY, kind)])

    def test_what_is_alike_but_for_one_leaf_is_not_found(self):
        for text in ("(a>(b>c))", "((a>b)>c)", "(a*(b>c))", "(((a*b)>c)>(d*(a>b)))"):
            kind = read_kind(text)
            for at, letter in enumerate(text):
                for other in "abcdh1":
                    if letter in "abcd":
                        changed = read_kind(text[:at] + other + text[at + 1:])
                        found = self.check([("x", changed)], kind)
                        if not alike(changed, kind):
                            self.assertIsNone(apart_fault(changed, kind, apart(changed, kind)))
                            self.assertEqual([row for row in found if not row[1]], [])

    def test_the_list_and_each_wants_are_new_ones(self):
        library = list(LIBRARY)
        for text, _ in SEARCHES:
            kind = read_kind(text)
            found, again = search(library, kind), search(library, kind)
            before = copy.deepcopy(again)
            for row in found:
                row[1].append(None)
                row[1].reverse()
            found.clear()
            self.assertEqual(again, before)
            self.assertEqual(search(library, kind), before)
            self.assertEqual(library, LIBRARY)

    def test_the_library_is_looked_through_as_it_is(self):
        library = [("x", A), ("y", func(B, A))]
        self.assertEqual([row[:2] for row in search(library, A)], [("x", []), ("y", [((), 1)])])
        library[0] = ("x", B)
        self.assertEqual([row[:2] for row in search(library, A)], [("y", [((), 1)])])
        library.append(("z", both(A, UNIT)))
        self.assertEqual([row[:2] for row in search(library, A)], [("y", [((), 1)]), ("z", [])])
        library.reverse()
        self.assertEqual([row[:2] for row in search(library, A)], [("z", []), ("y", [((), 1)])])
        library.append(("z", A))
        self.assert_refused(NoLibrary, search, library, A)
        library.clear()
        self.assertEqual(search(library, A), [])


# None of these is a library.
NO_LIBRARIES = STRAYS + TUPLES_NO_KIND + [
    "", "x", (), A, UNIT, tuple(LIBRARY), (("x", A),), {"x": A}, {("x", A)}, iter([("x", A)]), [[]], [()], [None],
    ["x"], ["xy"], [A], [both(A, B)], [("x",)], [("x", A, B)], [("x", A, None)], [["x", A]], [("x", A), ["y", A]],
    [(A, "x")], [(None, A)], [(True, A)], [(0, A)], [(b"x", A)], [(("x",), A)], [(["x"], A)], [({}, A)], [(Yes(), A)],
    [(Loud(), A)], [("x", A), ("x", A)], [("x", A), ("x", B)], [("x", A), ("y", B), ("x", C)], [("", A), ("", A)],
    LIBRARY[:29] + [LIBRARY[0]], LIBRARY[:9] + [LIBRARY[4]] + LIBRARY[9:], [LIBRARY[0]] + LIBRARY, LIBRARY + LIBRARY,
    LIBRARY + [None], [None] + LIBRARY, LIBRARY[:5] + [LIBRARY[5][0]] + LIBRARY[6:], [LIBRARY], [("x", LIBRARY)],
] + [[("x", A), ("y", wrong)] for wrong in NO_KINDS] + [[("y", wrong), ("x", A)] for wrong in NO_KINDS]


class TestRefusals(Refusals):
    NAMES = ["", "z", "X", "x ", "xx", b"x", None, True, 0, 1, ("x",), ["x"], {"x"}, {"x": 1}, [], {}, A, ("x", A),
             Loud(), Yes(), object()] + STRAYS

    def test_no_library(self):
        for at, library in enumerate(NO_LIBRARIES):
            with self.subTest(at):
                for kind in (A, UNIT):
                    self.assert_refused(NoLibrary, search, library, kind)
                    for name in ("x", "no", None, []):
                        self.assert_refused(NoLibrary, search_fault, library, kind, name, ([], LEAVE, LEAVE))
                        self.assert_refused(NoLibrary, search_fault, library, kind, name, None)

    def test_a_kind_that_is_none_at_any_depth(self):
        for at, thing in enumerate(NO_KINDS):
            with self.subTest(at):
                for wrong in hidden_in_kinds(thing):
                    self.assert_refused(NoLibrary, search, [("x", A), ("y", wrong)], A)
                    self.assert_refused(NoLibrary, search_fault, [("y", wrong), ("x", A)], A, "x", None)

    def test_names_that_differ(self):
        names = ["", " ", "x", "X", "xx", "x ", " x", "x\n", "1", "None", "e\u0301", "\u00e9", "\u65e5", "\ud800"]
        library = [(name, A) for name in names]
        self.assertEqual([row[0] for row in search(library, A)], names)
        for name in names:
            self.assertIsNone(search_fault(library, A, name, ([], LEAVE, LEAVE)))

    def test_no_name(self):
        for library in ([], [("x", A)], [("x", A), ("y", B)]):
            for at, name in enumerate(self.NAMES):
                with self.subTest(at):
                    for thing in (([], LEAVE, LEAVE), None, [], {}):
                        self.assert_refused(NoName, search_fault, library, A, name, thing)
        for name, _ in LIBRARY:
            self.assert_refused(NoName, search_fault, LIBRARY, A, name.upper() + "?", None)

    def test_no_kind_ahead_of_no_library_and_this_ahead_of_no_name(self):
        for at, kind in enumerate(no_kinds_at_any_depth()):
            with self.subTest(at):
                for library in ([], None, [("x", A), ("x", A)], [("x", None)], LIBRARY):
                    self.assert_refused(NoKind, search, library, kind)
                    for name in ("x", "leave", None, []):
                        self.assert_refused(NoKind, search_fault, library, kind, name, None)

    def test_what_is_handed_in_is_unchanged(self):
        for library in ([("x", A), ["y", [A]]], [["x"], {"y": []}], [("x", A), ("x", [B])]):
            before = copy.deepcopy(library)
            self.assert_refused(NoLibrary, search, library, A)
            self.assert_refused(NoLibrary, search_fault, library, A, "x", None)
            self.assertEqual(library, before)
        for name in (["x"], {"x": [1]}):
            before = copy.deepcopy(name)
            self.assert_refused(NoName, search_fault, LIBRARY, A, name, None)
            self.assertEqual(name, before)


class TestSearchFault(Searches):
    def test_what_search_tells(self):
        for text, _ in SEARCHES:
            kind = read_kind(text)
            for name, wants, there, back in search(LIBRARY, kind):
                self.assertIsNone(search_fault(LIBRARY, kind, name, (wants, there, back)))
                self.assertIsNone(search_fault(LIBRARY[::-1], kind, name, (list(wants), there, back)))

    def test_no_form(self):
        good = [((), 0)]
        rows = STRAYS + TUPLES_NO_KIND + [
            [], "", (), (good,), (good, LEAVE), (good, LEAVE, LEAVE, LEAVE), [good, LEAVE, LEAVE], ([], []), ([[]] * 2),
            (LEAVE, LEAVE, good), ((good, LEAVE, LEAVE),), {0: good}, [("x", good, LEAVE, LEAVE)],
            ("x", good, LEAVE, LEAVE)]
        wrong_wants = [wants for wants in STRAYS if type(wants) is not list] + TUPLES_NO_KIND + [
            (), (((), 0),), ((), 0), [()], [None], ["a"], [0], [[]], [[(), 0]], [((), 8)], [((), -1)], [((), True)],
            [((), False)], [((), 1), ((), 0)], [([], 0)], [((), 0, 0)], [((), "0")], "", "a", A, UNIT, {}, [{}],
            [Loud()], [Yes()], [(((), 0), 1)], [((((), 1), ((), 0)), 2)], [((((), True),), 1)], [((((), 8),), 1)],
            [((None,), 1)]]
        rows += [(wants, LEAVE, LEAVE) for wants in wrong_wants] + [(wants, None, []) for wants in wrong_wants]
        for kind, name in ((A, "a"), (A, "leave"), (UNIT, "nothing"), (D, "a"), (H, "map")):
            for at, thing in enumerate(rows):
                with self.subTest(at):
                    self.assertEqual(search_fault(LIBRARY, kind, name, thing), ("form",))

    def test_what_turn_fault_tells(self):
        chance = random.Random(17)
        told_of = {}
        for text, _ in SEARCHES:
            kind = read_kind(text)
            rows = [row[1:] for row in search(LIBRARY, kind)] + [([], LEAVE, LEAVE), ([((), 0)], None, {}), ([], [], 0)]
            rows += [(wants, back, there) for wants, there, back in rows]
            rows += [([], there, back) for _, there, back in rows]
            rows += [([((), 1)], there, there) for _, there, _ in rows]
            rows += [(wants, chance.choice(NO_TERMS), back) for wants, _, back in rows[:5]]
            rows += [(wants, there, chance.choice(NO_TERMS)) for wants, there, _ in rows[:5]]
            for name, thing in LIBRARY:
                for wants, there, back in rows:
                    fault = turn_fault(thing, function_of(wants, kind), there, back)
                    self.assertEqual(search_fault(LIBRARY, kind, name, (wants, there, back)), fault)
                    told_of[fault] = True
        self.assertEqual(set(told_of), {None, ("kind", 0), ("kind", 1)})

    def test_rounds(self):
        pair = both(A, A)
        library = [("x", pair), ("y", func(B, pair))]
        leave, taken_twice = make(pair, G0), make(pair, both(("first", G0), ("first", G0)))
        swap = make(pair, both(("second", G0), ("first", G0)))
        self.assertIsNone(search_fault(library, pair, "x", ([], leave, leave)))
        self.assertIsNone(search_fault(library, pair, "x", ([], swap, swap)))
        self.assertEqual(search_fault(library, pair, "x", ([], taken_twice, leave)), ("round", 0))
        self.assertEqual(search_fault(library, pair, "x", ([], swap, leave)), ("round", 0))
        self.assertEqual(search_fault(library, pair, "y", ([], swap, leave)), ("kind", 0))
        self.assertEqual(search_fault([("x", A)], pair, "x", ([], make(A, both(G0, G0)), make(pair, ("first", G0)))),
                         ("round", 1))

    def test_by_the_names_of_things_that_are_not_found(self):
        for text, told in SEARCHES:
            kind = read_kind(text)
            for name, thing in LIBRARY:
                if name not in told:
                    for wants in ([], [((), 0)], form(thing)):
                        there, back = make(thing, G0), make(kind, NOTHING)
                        self.assertIsNotNone(search_fault(LIBRARY, kind, name, (wants, there, back)))

    def test_wants_are_looked_at_as_they_are_then(self):
        library = [("x", func(A, func(B, C)))]
        (_, wants, there, back), = search(library, func(B, C))
        self.assertEqual(wants, [((), 0)])
        self.assertIsNone(search_fault(library, func(B, C), "x", (wants, there, back)))
        wants.append(((), 0))
        self.assertEqual(search_fault(library, func(B, C), "x", (wants, there, back)), ("kind", 0))
        wants[1] = None
        self.assertEqual(search_fault(library, func(B, C), "x", (wants, there, back)), ("form",))
        self.assertEqual(wants, [((), 0), None])
        wants.pop()
        self.assertIsNone(search_fault(library, func(B, C), "x", (wants, there, back)))
        wants.clear()
        self.assertEqual(search_fault(library, func(B, C), "x", (wants, there, back)), ("kind", 0))

    def test_alike_kinds_by_the_same_name(self):
        for kind in turned(func(A, both(B, C))):
            there, back = turner(kind, func(A, both(B, C))), turner(func(A, both(B, C)), kind)
            self.assertIsNone(search_fault([("x", kind)], func(A, both(B, C)), "x", ([], there, back)))
            self.assertIsNone(search_fault([("x", func(A, both(B, C)))], kind, "x", ([], back, there)))
            self.assertEqual(term_kind(there, []), func(kind, func(A, both(B, C))))


class TestBounds(Searches):
    def test_deep_and_wide_kinds(self):
        began = time.process_time()
        for kind in list(deep_kinds(98)) + list(wide_kinds()):
            library = [("alike", both(UNIT, kind)), ("more", func(C, kind)), ("other", both(H, kind)),
                       ("more and alike", func(both(C, D), both(kind, UNIT)))]
            found = search(library, kind)
            if form(kind):
                self.assertEqual([row[:2] for row in found], [
                    ("alike", []), ("more", [((), 2)]), ("more and alike", [((), 2), ((), 3)])])
            for name, wants, there, back in found:
                self.assertEqual(search_fault(library, kind, name, (wants, None, back)), ("kind", 0))
                if parts_of(there) <= 2000:
                    self.assertIsNone(search_fault(library, kind, name, (wants, there, back)))
                    self.assertEqual(search_fault(library, kind, "other", (wants, there, back)), ("kind", 0))
        self.assertLess(time.process_time() - began, 120)

    def test_thirty_things_of_thirty_bases(self):
        began = time.process_time()
        bases = [("base", k % 8) for k in range(30)]
        taken = given = UNIT
        for base in bases[:15]:
            taken, given = both(base, taken), both(given, base)
        # All want fifteen things, and all that is given is the same: each one has to be tried.
        same = UNIT
        for _ in range(15):
            same = both(A, same)
        library = [(str(k), [func(taken, same), func(taken, given), both(func(taken, A), func(taken, B))][k % 3])
                   for k in range(30)]
        self.assertEqual([row[0] for row in search(library, same)], [str(k) for k in range(0, 30, 3)])
        self.assertEqual([row[0] for row in search(library, given)], [str(k) for k in range(1, 30, 3)])
        self.assertEqual([row[0] for row in search(library, both(B, A))], [str(k) for k in range(2, 30, 3)])
        self.assertEqual(search(library, both(A, func(A, B))), [])
        self.assertLess(time.process_time() - began, 60)


if __name__ == "__main__":
    unittest.main()
