"""Terms: their kinds, and what they do to worths."""

from kindswap.doing import Doing
from kindswap.errors import NoKind, NoTerm, NoWorth, TooMany
from kindswap.kinds import need_kind
from kindswap.parts import read_term
from kindswap.sized import MOST_TOLD, by_sizes, has_worth, need_sizes


def term_kind(term, given):
    """The kind of the term by the kinds of what is given."""
    need_kinds(given)
    return read_term(term, given).kind


def need_kinds(thing):
    """Refuse what is no list of kinds."""
    if type(thing) is not list:
        raise NoKind("this is not a list of kinds")
    for kind in thing:
        need_kind(kind)


def done(term, sizes, worth):
    """What the term, a function without givens, gives for the worth."""
    part = read_term(term, [])
    if part.kind[0] != "from":
        raise NoTerm("this is not a function")
    need_sizes(sizes)
    takes = by_sizes(part.kind[1], sizes)
    gives = by_sizes(part.kind[2], sizes)
    if max(takes.most_taken, gives.most_taken) > MOST_TOLD:
        raise TooMany("a function takes one of more than five thousand worths")
    if not has_worth(takes, worth):
        raise NoWorth("this is not a worth of what the term takes")
    return Doing().result(part, takes, gives, worth)
