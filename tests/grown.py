"""Terms grown by single steps that lead back to them, and kinds changed into alike ones by single
equations."""

from samples import A, UNIT, both, func
from slow import lifted, slow_kind
from term_samples import NOTHING, do, first, given, make, second


def places(term, kinds):
    """Each part of the term with the kinds given to it, and how to put another one in its place."""
    yield term, kinds, lambda part: part
    if term[0] in ("given", "unit"):
        return
    start = 2 if term[0] == "make" else 1
    inner = kinds + [term[1]] if term[0] == "make" else kinds
    for at in range(start, len(term)):
        for part, part_kinds, put in places(term[at], inner):
            yield part, part_kinds, lambda new, at=at, put=put: term[:at] + (put(new),) + term[at + 1:]


def named(term, part, kinds):
    """The term with the part handed to it, under a name in all places where it stands."""
    many = len(kinds)
    raised_term, raised_part = lifted(term, many, 1), lifted(part, many, 1)
    return do(make(slow_kind(part, kinds), _renamed(raised_term, raised_part, many, many + 1)), part)


def _renamed(term, part, number, many):
    if term == part:
        return given(number)
    if term[0] in ("given", "unit"):
        return term
    if term[0] == "make":
        return make(term[1], _renamed(term[2], lifted(part, many, 1), number, many + 1))
    return term[:1] + tuple(_renamed(one, part, number, many) for one in term[1:])


def grown_at_top(term, kinds, other):
    """Terms that lead to this one by one step at the top. The other one is of what is given, too."""
    kind = slow_kind(term, kinds)
    many = len(kinds)
    raised = lifted(term, many, 1)
    yield first(both(term, other))
    yield second(both(other, term))
    yield do(make(slow_kind(other, kinds), raised), other)
    yield do(make(kind, given(many)), term)
    if kind == UNIT:
        yield first(both(NOTHING, other))
        yield do(make(slow_kind(other, kinds), NOTHING), other)
    if kind[0] == "both":
        yield both(first(term), second(term))
    if kind[0] == "from":
        yield make(kind[1], do(raised, given(many)))
    for part, part_kinds, _ in places(term, kinds):
        if _can_stand_outside(part, many, len(part_kinds)):
            yield named(term, part, kinds)


def _can_stand_outside(part, many, many_there):
    """Whether the part means the same where fewer things are given."""
    if many == many_there:
        return True
    inner = [one for one, _, _ in places(part, [])]
    return all(one[0] != "make" and (one[0] != "given" or one[1] < many) for one in inner)


def grown(term, kinds, chance, steps):
    """The term grown by so many steps at any depth, one behind the other."""
    for _ in range(steps):
        part, part_kinds, put = chance.choice(list(places(term, kinds)))
        others = [NOTHING, make(A, given(len(part_kinds)))] + [given(k) for k in range(len(part_kinds))]
        rows = list(grown_at_top(part, part_kinds, chance.choice(others)))
        term = put(chance.choice(rows))
    return term


def is_plain(term, kind, kinds):
    """Whether the term of the kind is plain, as the document tells it."""
    if kind[0] == "unit":
        return term == ("unit",)
    if kind[0] == "both":
        return term[0] == "both" and is_plain(term[1], kind[1], kinds) and is_plain(term[2], kind[2], kinds)
    if kind[0] == "from":
        return term[:2] == ("make", kind[1]) and is_plain(term[2], kind[2], kinds + [kind[1]])
    while term[0] != "given":
        if term[0] not in ("do", "first", "second"):
            return False
        if term[0] == "do" and not is_plain(term[2], slow_kind(term[2], kinds), kinds):
            return False
        term = term[1]
    return True


def turned(kind):
    """Alike kinds, by one equation at the top."""
    yield both(kind, UNIT)
    yield both(UNIT, kind)
    yield func(UNIT, kind)
    if kind == UNIT:
        yield func(A, UNIT)
    if len(kind) < 3:
        return
    word, one, other = kind
    if word == "both":
        yield both(other, one)
        if other[0] == "both":
            yield both(both(one, other[1]), other[2])
        if one[0] == "both":
            yield both(one[1], both(one[2], other))
        if one[0] == other[0] == "from" and one[1] == other[1]:
            yield func(one[1], both(one[2], other[2]))
        yield from [part for part, rest in ((one, other), (other, one)) if rest == UNIT]
    else:
        if one[0] == "both":
            yield func(one[1], func(one[2], other))
        if other[0] == "from":
            yield func(both(one, other[1]), other[2])
        if other[0] == "both":
            yield both(func(one, other[1]), func(one, other[2]))
        if other == UNIT:
            yield UNIT
        if one == UNIT:
            yield other


def turned_anywhere(kind):
    """Alike kinds, by one equation at any depth."""
    yield from turned(kind)
    if len(kind) == 3:
        word, one, other = kind
        yield from ((word, part, other) for part in turned_anywhere(one))
        yield from ((word, one, part) for part in turned_anywhere(other))


def turned_often(kind, chance, steps):
    """An alike kind, by so many equations one behind the other."""
    for _ in range(steps):
        kind = chance.choice(list(turned_anywhere(kind)))
    return kind
