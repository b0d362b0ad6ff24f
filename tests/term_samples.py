"""Terms that several tests hand in."""

from samples import (A, B, C, NO_KINDS, STRAYS, TUPLES_NO_KIND, UNIT, WAYS, Loud, Yes, both, func, nested,
                     wide_kinds)


def given(k):
    return ("given", k)


def make(kind, body):
    return ("make", kind, body)


def do(one, other):
    return ("do", one, other)


def first(one):
    return ("first", one)


def second(one):
    return ("second", one)


G0, G1, G2, G3 = [given(k) for k in range(4)]
NOTHING = ("unit",)
LEAVE = make(A, G0)
LEAVE_SECOND = make(A, G1)
SWAP = make(both(A, B), both(second(G0), first(G0)))

# No terms, whatever is given.
NO_TERMS = STRAYS + TUPLES_NO_KIND + [
    "", "unit", "given", [], ["unit"], ["given", 0], ["make", A, NOTHING], A, B, func(A, B), {"given": 0},
    ("given",), ("given", 0, 0), ("given", -1), ("given", -8), ("given", True), ("given", False),
    ("given", None), ("given", "0"), ("given", 0.0), ("given", ()), ("given", (0,)), ("given", [0]),
    ("given", {}), ("given", G0), ("given", Loud()), ("given", Yes()), ("given", 10 ** 59),
    ("given", -10 ** 59), ("Given", 0), ("giv", 0), (b"given", 0), (["given"], 0), (Yes(), 0), (Loud(), 0),
    ("unit", ()), ("unit", NOTHING), ("unit", None), (NOTHING,), ("Unit",), (None,), (Yes(),), ("make",),
    ("make", A), ("make", NOTHING), ("make", A, NOTHING, NOTHING), ("make", NOTHING, A), ("do",),
    ("do", LEAVE), ("do", LEAVE, NOTHING, NOTHING), ("both",), ("both", NOTHING), ("second",), ("first",),
    ("both", NOTHING, NOTHING, NOTHING), ("first", both(NOTHING, NOTHING), NOTHING), ("third", NOTHING),
    ("second", both(NOTHING, NOTHING), None), ("second", both(NOTHING, NOTHING), both(NOTHING, NOTHING)),
    ["both", NOTHING, NOTHING], ("both", [NOTHING, NOTHING]), ("both", (NOTHING, NOTHING)), ("from", A, B),
    ("both", ["unit"], NOTHING), ("both", NOTHING, ["unit"]), ("base", 0), ("do", [], []), ("do", {}, {}),
    ("make", A, ["unit"]), ("make", A, ["given", 0]), ("first", [NOTHING, NOTHING]), ("", NOTHING),
] + [("make", thing, NOTHING) for thing in NO_KINDS]

# Terms that have no kind, however many kinds are given: none of them is of a form that is wrong.
KINDLESS = [
    first(NOTHING), second(NOTHING), first(LEAVE), second(LEAVE), do(NOTHING, NOTHING), do(LEAVE, NOTHING),
    do(LEAVE, LEAVE), do(both(LEAVE, LEAVE), NOTHING), do(NOTHING, LEAVE), first(first(both(NOTHING, LEAVE))),
    second(first(both(NOTHING, LEAVE))), first(second(both(both(NOTHING, NOTHING), LEAVE))),
    do(make(UNIT, NOTHING), both(NOTHING, NOTHING)), do(make(both(UNIT, UNIT), NOTHING), NOTHING),
    do(make(func(A, A), NOTHING), make(B, NOTHING)), do(make(func(A, A), NOTHING), make(A, NOTHING)),
    do(make(both(A, UNIT), NOTHING), both(NOTHING, NOTHING)), do(do(make(UNIT, NOTHING), NOTHING), NOTHING),
    do(make(func(UNIT, both(UNIT, UNIT)), NOTHING), make(UNIT, NOTHING)), do(first(both(NOTHING, LEAVE)), NOTHING),
    do(make(func(both(A, B), both(B, A)), NOTHING), make(both(A, B), both(first(("unit",)), NOTHING))),
    do(make(func(both(A, B), both(A, B)), NOTHING), SWAP), given(10 ** 59), given(1000), both(NOTHING, given(1000)),
]


def hidden_in_terms(thing):
    """Things made like terms with a kind, but for the thing that stands somewhere in them."""
    yield make(A, thing)
    yield make(func(A, B), make(UNIT, thing))
    yield both(thing, NOTHING)
    yield both(NOTHING, thing)
    yield first(both(NOTHING, thing))
    yield second(both(thing, NOTHING))
    yield first(thing)
    yield second(thing)
    yield do(thing, NOTHING)
    yield do(make(UNIT, NOTHING), thing)
    yield do(make(UNIT, thing), NOTHING)
    yield do(make(UNIT, both(NOTHING, make(A, both(thing, LEAVE)))), NOTHING)
    deep = thing
    for k in range(24):
        deep = [both(deep, NOTHING), make(A, deep), first(both(NOTHING, deep)), both(LEAVE, deep),
                do(make(UNIT, deep), NOTHING), second(both(deep, LEAVE))][k % 6]
    yield deep


def no_terms_at_any_depth():
    for thing in NO_TERMS + KINDLESS:
        yield thing
        yield from hidden_in_terms(thing)


def moved(term, many):
    """The term with so many more things given in front of all else."""
    if term[0] == "given":
        return given(term[1] + many)
    if term[0] == "make":
        return make(term[1], moved(term[2], many))
    return term[:1] + tuple(moved(part, many) for part in term[1:])


def parts_of(term):
    """How many parts the term has."""
    if term[0] in ("given", "unit"):
        return 1
    return 1 + sum(parts_of(part) for part in term[2 if term[0] == "make" else 1:])


def deep_terms():
    """Terms of a hundred parts within one another, what they are given, and their kinds."""
    units = nested(WAYS[3], 100, UNIT)
    for way in WAYS[:2]:
        yield nested(way, 100, NOTHING), [], nested(way, 100, UNIT)
        yield nested(way, 100, G1), [B, A], nested(way, 100, A)
    yield nested(lambda term: do(G0, term), 100, G1), [func(A, A), A], A
    term, kind = G0, units
    for _ in range(99):
        term, kind = do(term, NOTHING), kind[2]
    yield term, [units], kind
    yield nested(first, 100, G0), [nested(WAYS[0], 100, A)], A
    yield nested(second, 100, G0), [nested(WAYS[1], 100, A)], A
    term, kind = given(98), A
    for _ in range(99):
        term, kind = make(A, term), func(A, kind)
    yield term, [], kind
    yield nested(lambda term: make(UNIT, term), 100, G1), [A, B], nested(lambda kind: func(UNIT, kind), 100, B)
    yield nested(lambda term: first(both(term, NOTHING)), 50, G0), [A], A
    yield nested(lambda term: second(both(NOTHING, term)), 50, G0), [A], A
    yield nested(lambda term: do(LEAVE_SECOND, term), 99, G0), [A], A
    yield nested(lambda term: do(make(UNIT, term), NOTHING), 50, G0), [A], A
    yield row_of_names(49), [], func(A, A)


def row_of_names(many):
    """What is taken, given a new name so many times, one within the other."""
    term = given(many)
    for k in reversed(range(many)):
        term = do(make(A, term), given(k))
    return make(A, term)


def twice_and_again(kind, body, many):
    """A function of the kind done twice, and that twice, and so on, one name for each; the first
    one has the body, made of what is given second."""
    term = do(given(many + 1), G0)
    for k in reversed(range(1, many + 1)):
        doubled = make(kind, do(given(k), do(given(k), given(k + 1))))
        term = do(make(func(kind, kind), term), doubled)
    return make(kind, do(make(func(kind, kind), term), make(kind, body)))


def wide_terms():
    """Terms of about two thousand parts, what they are given, and their kinds."""
    yield _spread(both, [G0] * 1000), [A], _spread(both, [A] * 1000)
    wide = list(wide_kinds())[:6]
    yield _spread(both, [given(k % 6) for k in range(1000)]), wide, _spread(both, [wide[k % 6] for k in range(1000)])
    yield _spread(both, [make(A, given(1))] * 666), [B], _spread(both, [func(A, A)] * 666)
    yield _spread(both, [do(G0, G1)] * 500), [func(A, B), A], _spread(both, [B] * 500)
    yield _spread(lambda one, other: do(do(G0, one), other), [G1] * 500), [func(A, func(A, A)), A], A
    yield _spread(lambda one, other: first(both(one, other)), [G0] * 660), [A], A
    yield make(C, _spread(both, [first(G0), second(G0)] * 330)), [both(A, B)], func(
        C, _spread(both, [A, B] * 330))


def _spread(make_one, parts):
    """The parts put together, as few within one another as can be."""
    if len(parts) == 1:
        return parts[0]
    half = len(parts) // 2
    return make_one(_spread(make_one, parts[:half]), _spread(make_one, parts[half:]))
