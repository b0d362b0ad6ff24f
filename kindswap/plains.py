"""Plain terms: the one to which each term leads, and which terms lead to the same one."""

from kindswap.leading import Leading, given_value
from kindswap.parts import read_term
from kindswap.terms import need_kinds


def plain(term, given):
    """The plain term to which the term leads, by the kinds of what is given."""
    need_kinds(given)
    return _plain_of_part(read_term(term, given), given)


def same(one, other, given):
    """Whether both terms have one kind and lead to the same plain term."""
    need_kinds(given)
    one_part = read_term(one, given)
    other_part = read_term(other, given)
    if one_part.kind != other_part.kind:
        return False
    return equal_terms(_plain_of_part(one_part, given), _plain_of_part(other_part, given))


def _plain_of_part(part, given):
    """The plain term of what is read already."""
    leading = Leading()
    scope = {number: given_value(number, kind) for number, kind in enumerate(given)}
    return leading.plain_term(leading.reckoned(part, scope), part.kind, len(given))


def equal_terms(one, other):
    """Whether the terms are the same; they may be too deep for Python to compare them."""
    left = [(one, other)]
    while left:
        part, other_part = left.pop()
        if type(part) is not tuple or type(other_part) is not tuple:
            if part != other_part:
                return False
        elif len(part) != len(other_part):
            return False
        else:
            left.extend(list(zip(part, other_part)))
    return True
