"""Things that several tests hand in."""

import itertools
import unittest


def base(n):
    return ("base", n)


def both(one, other):
    return ("both", one, other)


def func(one, other):
    return ("from", one, other)


UNIT = ("unit",)
A, B, C, D, E, F, G, H = [base(n) for n in range(8)]


class Refusals(unittest.TestCase):
    """What tests of refusals have in common."""

    def assert_refused(self, refusal, function, *things):
        with self.assertRaises(refusal) as caught:
            function(*things)
        self.assertIs(type(caught.exception), refusal)


class Loud:
    """Calls any comparison or look an error."""

    def _fail(self, *rest):
        raise AssertionError("looked into what is nothing of ours")

    __eq__ = __ne__ = __lt__ = __gt__ = __len__ = __iter__ = __bool__ = _fail
    __getitem__ = __contains__ = __hash__ = __repr__ = __str__ = __index__ = _fail


class Yes:
    """Equal to everything."""

    __hash__ = None

    def __eq__(self, other):
        return True

    def __lt__(self, other):
        return True


# Of no sort that any function here takes.
STRAYS = [
    None, True, False, 0, 1, -1, 8, 10 ** 59, 1.5, 2j, b"", b"a", {}, {"base": 0},
    {0: "base", 1: 0}, set(), {"unit"}, frozenset(["unit"]), object(), object, len, Loud(), Yes(),
    NotImplemented, range(2), [None], ["a"], ["unit"], ["base", 0], ["both", A, B],
    bytearray(b"a"), memoryview(b"1"), iter("a"),
]

# None of these is a kind, and none of them is a text or a list.
TUPLES_NO_KIND = [
    (), ((),), (None,), (0,), (A,), (A, B), (UNIT, A, B), ([],), (Loud(),), (Yes(),), (Yes(), 0),
    ("base",), ("base", 8), ("base", 9), ("base", -1), ("base", -8), ("base", 10 ** 59),
    ("base", True), ("base", False), ("base", "0"), ("base", "a"), ("base", ""), ("base", None),
    ("base", 0.0), ("base", ()), ("base", (0,)), ("base", [0]), ("base", A), ("base", Loud()),
    ("base", Yes()), ("base", 0, 0), ("base", 0, A), ("base", 0, None),
    ("unit", ()), ("unit", None), ("unit", 0), ("unit", UNIT), ("unit", A, B),
    ("both",), ("both", A), ("both", A, B, C), ("both", A, None), ("both", None, A),
    ("both", 0, 1), ("both", "a", "b"), ("both", (A, B)), ("both", [A, B]),
    ("both", A, ["base", 0]), ("both", ["unit"], A), ("both", Loud(), Loud()), ("both", A, Yes()),
    ("from",), ("from", A), ("from", A, B, C), ("from", A, None), ("from", None, A),
    ("from", 0, 1), ("from", "a", "b"), ("from", (A, B)), ("from", [], B), ("from", A, {}),
    ("from", A, ()), ("from", (), A), ("from", Loud(), Loud()), ("from", Yes(), A),
    ("pair", A, B), ("to", A, B), ("Base", 0), ("bases", 0), ("bas", 0), ("", 0), (b"base", 0),
    ("BASE", 0), ("Unit",), ("units",), ("",), ("a",), ("1",), ("BOTH", A, B), ("From", A, B),
    ("*", A, B), (">", A, B), (["both"], A, B), (("both",), A, B), ({"from": 1}, A, B),
]

NO_KINDS = STRAYS + TUPLES_NO_KIND + ["", "a", "1", "(a*b)", "base", "unit", [], [((), 0)]]


# Each row: texts of kinds that are alike, and to none of the other rows.
ALIKE_ROWS = [
    ["1", "(1*1)", "(a>1)", "(1>1)", "((a>b)>(1*(b>1)))"],
    ["a", "(a*1)", "(1*a)", "(1>a)", "((1*1)*(1>(a*(b>1))))", "((b>1)>a)"],
    ["b", "(b*1)", "(1>(1>b))"],
    ["(a*b)", "(b*a)", "((1>b)*a)", "(1>(b*a))"],
    ["(a*a)", "((a*1)*a)"],
    ["(a*(b*c))", "((a*b)*c)", "((c*a)*b)", "(c*(b*a))"],
    ["(a>b)", "(a>(1>b))", "(1>(a>b))", "((a*1)>b)", "((1>a)>(b*1))"],
    ["(b>a)"],
    ["((a*b)>c)", "((b*a)>c)", "(a>(b>c))", "(b>(a>c))"],
    ["((a*a)>c)", "(a>(a>c))"],
    ["((a>b)>c)", "((1>(a>b))>c)"],
    ["(a>(b*c))", "(a>(c*b))", "((a>b)*(a>c))", "((a>c)*(a>b))"],
    ["((a>b)*c)", "(c*(a>b))"],
    ["(a>((b*c)*(a>b)))", "(((a*a)>b)*((a>c)*(a>b)))", "((a>(a>b))*(a>(b*c)))"],
    ["((a>(b*c))>d)", "(((a>b)*(a>c))>d)", "((a>c)>((a>b)>d))"],
    ["(((a*b)>c)>d)", "((b>(a>c))>d)"],
    ["(a*(b*(c*d)))", "((d*c)*(b*a))", "((a*d)*(c*b))"],
]

# None of these are sizes.
NO_SIZES = STRAYS + TUPLES_NO_KIND + [A, UNIT, both(A, B), "", "12345678", b"12345678", []] + [
    [1] * 7, [1] * 9, [1] * 16, [999] * 7, [2, 3, 1, 4, 1, 1, 5, 2, 1], tuple([1] * 8),
    tuple([2, 3, 1, 4, 1, 1, 5, 2]), {n: 1 for n in range(8)}, range(1, 9), iter([1] * 8), [[1] * 8],
    [[1]] * 8, [A] * 8, [Loud()] * 8, [Yes()] * 8, ["1"] * 8, ["2", "3", "1", "4", "1", "1", "5", "2"],
] + [
    [1] * at + [wrong] + [1] * (7 - at)
    for at in (0, 3, 7)
    for wrong in (0, -1, 1000, 1001, 10 ** 59, -10 ** 59, True, False, None, "1", "", b"1", 1.0, 2.5,
                  (), (1,), [1], [], {}, {1}, Loud(), Yes(), object(), int)
]

# None of these is a divisor.
NO_DIVISORS = [thing for thing in STRAYS if type(thing) is not int] + TUPLES_NO_KIND + [
    1, 0, -1, -2, -7, -10 ** 9, 10 ** 9 + 1, 10 ** 9 + 7, 10 ** 18, 10 ** 59, "", "7", "2", [], [2], [7],
    (), (7,), 2.0, 7.0, {7}, {7: 7}, A, UNIT,
]


def hidden_in_kinds(thing):
    """Things made like kinds, but for the thing that stands somewhere in them."""
    yield both(thing, A)
    yield both(A, thing)
    yield func(thing, A)
    yield func(A, thing)
    yield both(both(A, B), func(UNIT, func(C, both(thing, D))))
    yield func(func(func(both(UNIT, thing), A), B), func(C, D))
    deep = thing
    for k in range(20):
        deep = [both(deep, A), both(A, deep), func(deep, A), func(A, deep)][k % 4]
    yield deep


def no_kinds_at_any_depth():
    for thing in NO_KINDS:
        yield thing
        yield from hidden_in_kinds(thing)


# One part put on each side of a pair and of a function.
WAYS = [
    lambda kind, leaf=UNIT: both(kind, leaf), lambda kind, leaf=UNIT: both(leaf, kind),
    lambda kind, leaf=UNIT: func(kind, leaf), lambda kind, leaf=UNIT: func(leaf, kind),
]


def small_kinds(leaves, parts):
    """All kinds of so many leaves, each leaf one of the parts."""
    if leaves == 1:
        return list(parts)
    found = []
    for left in range(1, leaves):
        pairs = itertools.product(small_kinds(left, parts), small_kinds(leaves - left, parts))
        for one, other in pairs:
            found += [both(one, other), func(one, other)]
    return found


def nested(make, depth, kind):
    """The kind with so many parts within one another."""
    for _ in range(depth - 1):
        kind = make(kind)
    return kind


def deep_kinds(depth):
    """Kinds nested on either side of pairs and of functions, and by turns, each with at most
    thirty bases."""
    for way in WAYS:
        yield nested(way, depth, A)
        yield nested(way, depth, UNIT)
        yield nested(way, depth - 29, _thirty_bases(way))
        # More bases than are promised, but no more parts within one another.
        yield nested(lambda kind: way(kind, B), depth, A)
    for turn in (1, 2, 3):
        kind = A
        for k in range(depth - 1):
            way = k * turn % 4
            # A function to the unit would leave nothing of the form.
            kind = WAYS[way](kind, base(k % 8) if way == 2 else UNIT)
        yield kind


def _thirty_bases(way):
    """Thirty parts within one another, a base beside each."""
    kind = D
    for k in range(29):
        kind = way(kind, base(k % 3))
    return kind


def wide_kinds():
    """Kinds of thirty bases and two hundred units, and those with the largest forms."""
    leaves = [base(k % 8) for k in range(30)] + [UNIT] * 200
    mixed = [leaves[k // 7] if k % 7 == 0 and k < 210 else UNIT for k in range(230)]
    rows = [leaves, leaves[::-1], mixed, mixed[::-1]]
    for make in (both, func):
        for row in rows:
            yield _balanced(make, make, row)
            yield _balanced(make, func, row)
            yield _balanced(make, both, row)
    yield branching(3, 10)
    yield branching(2, 15)
    yield branching(5, 6)
    yield branching(15, 2)
    yield both(branching(3, 5), branching(3, 5))
    yield func(branching(3, 5), func(branching(3, 5), UNIT))


def _balanced(make, other_make, leaves):
    if len(leaves) == 1:
        return leaves[0]
    half = len(leaves) // 2
    one = _balanced(other_make, make, leaves[:half])
    return make(one, _balanced(other_make, make, leaves[half:]))


def branching(many, levels):
    """Functions to so many bases at once, from such functions: their form grows by each level
    as many times."""
    kind = UNIT
    for level in range(levels):
        bases = base(level % 8)
        for k in range(1, many):
            bases = both(base((level + k) % 8), bases)
        kind = func(kind, bases)
    return kind
