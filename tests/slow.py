"""Slow ways, told as the document tells it, against which the program's own are held."""

import itertools


def count(kind, sizes, most=10 ** 400):
    """How many worths the kind has, reckoned on another way than by forms; None for too many."""
    if kind[0] == "base":
        return sizes[kind[1]]
    if kind[0] == "unit":
        return 1
    one, other = count(kind[1], sizes, most), count(kind[2], sizes, most)
    if one is None and other == 1 and kind[0] == "from":
        return 1
    if one is None or other is None:
        return None
    if kind[0] == "both":
        return one * other
    if other == 1:
        return 1
    return None if one > 1500 or other ** one > most else other ** one


def slow_rest(kind, sizes, by):
    """The rest of the kind's number of worths, by going through the powers until they come again."""
    exact = count(kind, sizes)
    if exact is not None:
        return exact % by
    one, other = kind[1], kind[2]
    if kind[0] == "both":
        return slow_rest(one, sizes, by) * slow_rest(other, sizes, by) % by
    number = slow_rest(other, sizes, by)
    powers = []
    places = {}
    power = 1 % by
    while power not in places:
        places[power] = len(powers)
        powers.append(power)
        power = power * number % by
    first = places[power]
    again = len(powers) - first
    times = count(one, sizes)
    if times is None:
        # More than ten to the power of four hundred, and so behind the first one for sure.
        times = slow_rest(one, sizes, again)
        return powers[first + (times - first) % again]
    return powers[times if times < first else first + (times - first) % again]


def slow_worths(kind, sizes):
    """All worths of the kind."""
    if kind[0] == "base":
        return list(range(sizes[kind[1]]))
    if kind[0] == "unit":
        return [()]
    one, other = slow_worths(kind[1], sizes), slow_worths(kind[2], sizes)
    if kind[0] == "both":
        return sorted((first, second) for first in one for second in other)
    return sorted(itertools.product(other, repeat=len(one)))


def strictly_the_same(one, other):
    """Whether both are the same and of the same classes throughout."""
    if type(one) is not type(other):
        return False
    if type(one) is not tuple:
        return one == other
    return len(one) == len(other) and all(map(strictly_the_same, one, other))


def slow_term(term, given, sizes):
    """The kind and the worth of a term: each function as all that it gives. Of what is given
    the kind and the worth are told."""
    word = term[0]
    if word == "given":
        return given[term[1]]
    if word == "unit":
        return ("unit",), ()
    if word == "make":
        rows = [slow_term(term[2], given + [(term[1], worth)], sizes)
                for worth in slow_worths(term[1], sizes)]
        return ("from", term[1], rows[0][0]), tuple(worth for _, worth in rows)
    kind, worth = slow_term(term[1], given, sizes)
    if word == "first":
        return kind[1], worth[0]
    if word == "second":
        return kind[2], worth[1]
    other_kind, other = slow_term(term[2], given, sizes)
    if word == "both":
        return ("both", kind, other_kind), (worth, other)
    return kind[2], worth[slow_worths(other_kind, sizes).index(other)]


def slow_plain(term, kinds):
    """The plain term to which the term leads, by putting terms into one another."""
    return _told(term, slow_kind(term, kinds), kinds)


def slow_kind(term, kinds):
    """The kind of what surely is a term with a kind."""
    word = term[0]
    if word == "given":
        return kinds[term[1]]
    if word == "unit":
        return term
    if word == "make":
        return ("from", term[1], slow_kind(term[2], kinds + [term[1]]))
    if word == "both":
        return ("both", slow_kind(term[1], kinds), slow_kind(term[2], kinds))
    return slow_kind(term[1], kinds)[1 if word == "first" else 2]


def _told(term, kind, kinds):
    """The plain term of a term of the kind."""
    if kind[0] == "unit":
        return ("unit",)
    if kind[0] == "both":
        return ("both", _told(("first", term), kind[1], kinds), _told(("second", term), kind[2], kinds))
    if kind[0] == "from":
        # The thing that is given now is put in front of what functions in the term are given.
        handed = ("do", lifted(term, len(kinds), 1), ("given", len(kinds)))
        return ("make", kind[1], _told(handed, kind[2], kinds + [kind[1]]))
    return _told_within(_head(term, len(kinds)), kinds)


def _told_within(term, kinds):
    """The plain term of what is done one behind the other to a given."""
    if term[0] == "given":
        return term
    one = _told_within(term[1], kinds)
    if term[0] != "do":
        return (term[0], one)
    return ("do", one, _told(term[2], slow_kind(term[1], kinds)[1], kinds))


def lifted(term, many, by):
    """The term of so many things that are given with more of them given behind these."""
    if term[0] == "given":
        return term if term[1] < many else ("given", term[1] + by)
    if term[0] == "make":
        return ("make", term[1], lifted(term[2], many, by))
    return term[:1] + tuple(lifted(part, many, by) for part in term[1:])


def _head(term, many):
    """The term without any function handed to at its outside or part taken of both there."""
    if term[0] == "do":
        one = _head(term[1], many)
        if one[0] == "make":
            return _head(_put_in(one[2], many, term[2], many), many)
        return ("do", one, term[2])
    if term[0] in ("first", "second"):
        one = _head(term[1], many)
        if one[0] == "both":
            return _head(one[1 if term[0] == "first" else 2], many)
        return (term[0], one)
    return term


def _put_in(body, number, term, many):
    """The body with the term in the place of the given of the number, so many being given here;
    the term is made of what is given ahead of that number."""
    if body[0] == "given":
        if body[1] == number:
            return lifted(term, number, many - number)
        return body if body[1] < number else ("given", body[1] - 1)
    if body[0] == "make":
        return ("make", body[1], _put_in(body[2], number, term, many + 1))
    return body[:1] + tuple(_put_in(part, number, term, many) for part in body[1:])
