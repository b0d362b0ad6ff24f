"""Tests of kinds and their texts: promise [4], and [2] and its bounds for kindswap/kinds.py."""

import re
import unittest

from kindswap import kinds
from kindswap.errors import NoKind, NoText
from kindswap.kinds import is_kind, kind_text, read_kind
from samples import (A, B, C, D, E, F, G, H, NO_KINDS, STRAYS, TUPLES_NO_KIND, UNIT, WAYS, both,
                     deep_kinds, func, nested, no_kinds_at_any_depth, small_kinds, wide_kinds)

TEXTS = [
    (A, "a"), (B, "b"), (C, "c"), (D, "d"), (E, "e"), (F, "f"), (G, "g"), (H, "h"), (UNIT, "1"),
    (both(A, B), "(a*b)"), (func(A, B), "(a>b)"), (both(B, A), "(b*a)"), (func(B, A), "(b>a)"),
    (both(UNIT, UNIT), "(1*1)"), (func(UNIT, UNIT), "(1>1)"), (func(UNIT, H), "(1>h)"),
    (both(both(A, B), C), "((a*b)*c)"), (both(A, both(B, C)), "(a*(b*c))"),
    (func(func(A, B), C), "((a>b)>c)"), (func(A, func(B, C)), "(a>(b>c))"),
    (both(func(A, B), C), "((a>b)*c)"), (func(A, both(B, C)), "(a>(b*c))"),
    (func(both(A, B), C), "((a*b)>c)"), (both(A, func(B, C)), "(a*(b>c))"),
    (func(both(func(A, UNIT), G), both(H, func(UNIT, C))), "(((a>1)*g)>(h*(1>c)))"),
]

NO_TEXTS = [
    "", " ", "\n", "i", "j", "z", "A", "B", "H", "0", "2", "8", "11", "aa", "ab", "1a", "a1",
    " a", "a ", "a\n", "\ta", "a\x00", "\x00", "()", "(a)", "(1)", "((a*b))", "((a>b))", "(((a)))",
    "(", ")", "*", ">", "((", "))", ")(", "a*b", "a>b", "(a*b", "a*b)", "(a>b", "a>b)", "(ab)",
    "(a*)", "(*b)", "(>b)", "(a>)", "(*)", "(>)", "(**)", "(a**b)", "(a>>b)", "(a*>b)", "(a->b)",
    "(a*b*c)", "(a>b>c)", "(a*b)c", "c(a*b)", "(a*b)(a*b)", "(a*b)*", "(a*b)*c", "(a*b)>c", "(a*b))",
    "((a*b)", "((a*b)c)", "(a(b*c))", "(a*(b*c)", "(a*b)*c)", "(a*((b*c)))", "(a *b)", "(a* b)",
    "( a*b)", "(a*b )", " (a*b)", "(a*b) ", "(a*i)", "(i*a)", "(A*b)", "(a*B)", "(a,b)", "(a+b)",
    "(a-b)", "(a<b)", "(a=b)", "(a.b)", "(a/b)", "(a;b)", "[a*b]", "{a*b}", "<a*b>", "(a*b]",
    "(a*b}", ")a*b(", "(a*b(", ")a*b)", "a(*)b", "(a)*(b)", "((a)*b)", "(a*(b))", "unit", "base",
    "None", "('unit',)", "a,b", "(a*1", "(1*", "1)", "(0*a)", "(2*a)", "(a*11)",
    "\u0430", "(a\u00d7b)", "(a\u2192b)", "\uff41", "\u00b9", "\uff11", "\u0661", "(a\u2217b)",
    "\u00aa", "(a*b)\u200b", "\ud800", "\ufeffa",
]


def is_written(text):
    """Whether the text is one of a kind, found on another way than by reading it."""
    shorter = re.sub(r"\([a-h1][*>][a-h1]\)", "1", text)
    if shorter == text:
        return re.fullmatch("[a-h1]", text) is not None
    return is_written(shorter)


class TestInterface(unittest.TestCase):
    def test_each_function_is_defined_in_the_file(self):
        for name in ("is_kind", "kind_text", "read_kind"):
            self.assertEqual(getattr(kinds, name).__module__, "kindswap.kinds")

    def test_arguments_are_told_by_place_and_by_name(self):
        for kind, text in TEXTS:
            self.assertIs(is_kind(thing=kind), True)
            self.assertEqual(kind_text(kind=kind), text)
            self.assertEqual(read_kind(text=text), kind)
        self.assertIs(is_kind(thing=None), False)
        with self.assertRaises(NoKind):
            kind_text(kind=None)
        with self.assertRaises(NoText):
            read_kind(text=None)


class TestIsKind(unittest.TestCase):
    def test_each_sort_of_kind(self):
        for kind, text in TEXTS:
            with self.subTest(text):
                self.assertIs(is_kind(kind), True)

    def test_all_small_kinds(self):
        for leaves in (1, 2, 3):
            for kind in small_kinds(leaves, [UNIT, A, H]):
                self.assertIs(is_kind(kind), True)

    def test_nothing_else(self):
        for at, thing in enumerate(NO_KINDS):
            with self.subTest(at):
                self.assertIs(is_kind(thing), False)

    def test_nothing_else_at_any_depth(self):
        for at, thing in enumerate(no_kinds_at_any_depth()):
            with self.subTest(at):
                self.assertIs(is_kind(thing), False)

    def test_no_kind_that_has_lists_for_tuples(self):
        for kind, text in TEXTS:
            with self.subTest(text):
                self.assertIs(is_kind(list(kind)), False)
                self.assertIs(is_kind(both(A, list(kind))), False)

    def test_no_kind_with_one_thing_more_or_fewer(self):
        for kind, text in TEXTS:
            for wrong in (kind[:-1], kind + (A,), kind + (None,), kind + kind, (kind,), kind[1:]):
                with self.subTest(text=text, wrong=wrong):
                    self.assertIs(is_kind(wrong), False)


class TestKindText(unittest.TestCase):
    def test_each_sort_of_kind(self):
        for kind, text in TEXTS:
            with self.subTest(text):
                self.assertEqual(kind_text(kind), text)
                self.assertIs(type(kind_text(kind)), str)

    def test_kinds_within_one_another(self):
        for kind, text in TEXTS:
            for other, behind in TEXTS:
                self.assertEqual(kind_text(both(kind, other)), "(" + text + "*" + behind + ")")
                self.assertEqual(kind_text(func(kind, other)), "(" + text + ">" + behind + ")")

    def test_no_two_kinds_have_one_text(self):
        texts = {}
        for leaves in (1, 2, 3):
            for kind in small_kinds(leaves, [UNIT, A, B, H]):
                self.assertNotIn(kind_text(kind), texts)
                texts[kind_text(kind)] = kind

    def test_refuses_what_is_no_kind(self):
        for at, thing in enumerate(no_kinds_at_any_depth()):
            with self.subTest(at):
                with self.assertRaises(NoKind) as caught:
                    kind_text(thing)
                self.assertIs(type(caught.exception), NoKind)


class TestReadKind(unittest.TestCase):
    def test_reads_what_is_written(self):
        for kind, text in TEXTS:
            with self.subTest(text):
                self.assertEqual(read_kind(text), kind)

    def test_reads_all_small_kinds(self):
        for leaves in (1, 2, 3, 4):
            for kind in small_kinds(leaves, [UNIT, C]):
                self.assertEqual(read_kind(kind_text(kind)), kind)

    def test_what_is_read_is_a_kind(self):
        for kind, text in TEXTS:
            self.assertIs(is_kind(read_kind(text)), True)

    def assert_no_text(self, thing):
        with self.assertRaises(NoText) as caught:
            read_kind(thing)
        self.assertIs(type(caught.exception), NoText)

    def test_refuses_each_other_text(self):
        for text in NO_TEXTS:
            with self.subTest(text):
                self.assert_no_text(text)

    def test_refuses_a_sign_missing_doubled_exchanged_or_put_in(self):
        for _, text in TEXTS:
            for at in range(len(text) + 1):
                self.check_text(text[:at] + text[at + 1:])
                self.check_text(text[:at] + text[at:at + 1] + text[at:])
                for sign in "abch1()*>i 0A,":
                    self.check_text(text[:at] + sign + text[at + 1:])
                    self.check_text(text[:at] + sign + text[at:])

    def check_text(self, text):
        if is_written(text):
            self.assertEqual(kind_text(read_kind(text)), text)
        else:
            self.assert_no_text(text)

    def test_refuses_all_short_texts_that_are_not_written(self):
        texts = [""]
        for _ in range(5):
            texts = [text + sign for text in texts for sign in "a1()*>"]
            for text in texts:
                self.check_text(text)

    def test_refuses_braces_round_a_kind_and_something_behind_it(self):
        for _, text in TEXTS:
            for wrong in ("(" + text + ")", "((" + text + "))", text + text, text + "a", text + "1",
                          text + "*a", text + ">", text + ")", "(" + text, text + "\n", " " + text,
                          text + " ", text + "\x00", text + "()"):
                with self.subTest(wrong):
                    self.assert_no_text(wrong)

    def test_refuses_capitals(self):
        for _, text in TEXTS:
            if text.upper() != text:
                self.assert_no_text(text.upper())

    def test_refuses_rows_of_many_braces(self):
        for many in (30, 101, 3000, 50000):
            row = "(" * many
            back = ")" * many
            for text in (row, back, row + back, back + row, "()" * many, ")(" * many, row + "a",
                         row + "a" + back, "a" + back, row + "a*", row + "a" + "*a)" * (many - 1),
                         row + "a" + "*a)" * (many + 1), "(a*" * many, "(a*" * many + back,
                         "(a*" * many + "a" + back + ")", "(a*" * many + "a" + back[1:]):
                self.assert_no_text(text)

    def test_refuses_what_is_no_text(self):
        for at, thing in enumerate(STRAYS + TUPLES_NO_KIND + [["a"], A, UNIT, both(A, B), b"a"]):
            with self.subTest(at):
                self.assert_no_text(thing)


class TestBounds(unittest.TestCase):
    def test_deep_kinds(self):
        for kind in deep_kinds(100):
            self.assertIs(is_kind(kind), True)
            self.assertEqual(read_kind(kind_text(kind)), kind)

    def test_deep_texts(self):
        for way in WAYS:
            kind = nested(way, 100, A)
            text = "a"
            for _ in range(99):
                text = {"(a*1)": "(" + text + "*1)", "(1*a)": "(1*" + text + ")",
                        "(a>1)": "(" + text + ">1)", "(1>a)": "(1>" + text + ")"}[kind_text(way(A))]
            self.assertEqual(kind_text(kind), text)
            self.assertEqual(read_kind(text), kind)

    def test_no_kinds_deep_within(self):
        for thing in (None, ("base", 8), ("base", True), ["unit"], ("unit", ()), (), Ellipsis):
            for way in WAYS:
                deep = nested(way, 100, thing)
                self.assertIs(is_kind(deep), False)
                with self.assertRaises(NoKind):
                    kind_text(deep)

    def test_wide_kinds(self):
        for kind in wide_kinds():
            self.assertIs(is_kind(kind), True)
            text = kind_text(kind)
            self.assertEqual(read_kind(text), kind)
            with self.assertRaises(NoText):
                read_kind(text + ")")
            with self.assertRaises(NoText):
                read_kind("(" + text)


if __name__ == "__main__":
    unittest.main()
