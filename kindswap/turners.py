"""Turners from kinds to alike ones, and what is wrong with such."""

from kindswap.counts import apart
from kindswap.errors import NoTerm, Unlike
from kindswap.kinds import need_kind
from kindswap.leading import Leading, given_value
from kindswap.parts import read_term
from kindswap.plains import equal_terms
from kindswap.turning import Nodes, Turning


def turner(one, other):
    """The plain term that turns each worth of the one kind into one of the other."""
    told = apart(one, other)
    if told is not None:
        raise Unlike(told)
    nodes = Nodes()
    return Turning().turner(nodes.node(one), nodes.node(other))


def turn_fault(one, other, there, back):
    """None where the things, which may be anything, turn the kinds there and back, else why not."""
    need_kind(one)
    need_kind(other)
    there_part = _function_or_none(there, one, other)
    if there_part is None:
        return ("kind", 0)
    back_part = _function_or_none(back, other, one)
    if back_part is None:
        return ("kind", 1)
    if not _leaves_all(there_part, back_part):
        return ("round", 0)
    if not _leaves_all(back_part, there_part):
        return ("round", 1)
    return None


def _function_or_none(thing, takes, gives):
    """The term without givens that takes and gives the kinds, None if the thing is none."""
    try:
        part = read_term(thing, [])
    except NoTerm:
        return None
    return part if part.kind == ("from", takes, gives) else None


def _leaves_all(part, other_part):
    """Whether to do the one function, then the other is the same as to leave what is taken."""
    leading = Leading()
    kind = part.kind[1]
    taken = given_value(0, kind)
    turned = leading.result(leading.reckoned(part, {}), taken)
    turned = leading.result(leading.reckoned(other_part, {}), turned)
    return equal_terms(leading.plain_term(turned, kind, 1), leading.plain_term(taken, kind, 1))
