"""Forms of kinds: the same one for all kinds that are alike."""

from kindswap.errors import NoForm
from kindswap.kinds import is_base_number, need_kind


def form(kind):
    """The form of the kind, a new list."""
    need_kind(kind)
    return _factors(kind)


def _factors(kind):
    """The sorted factors of what surely is a kind."""
    found = []
    # Parts of the kind that are still to be taken, each with what it wants.
    left = [((), kind)]
    while left:
        wants, part = left.pop()
        if part[0] == "base":
            found.append((wants, part[1]))
        elif part[0] == "both":
            left.append((wants, part[1]))
            left.append((wants, part[2]))
        elif part[0] == "from":
            more = sorted(list(wants) + _factors(part[1]))
            left.append((tuple(more), part[2]))
    return sorted(found)


def is_form(thing):
    """Whether the thing, which may be anything, is a form."""
    if type(thing) is not list:
        return False
    rows = []
    left = [thing]
    while left:
        row = left.pop()
        rows.append(row)
        for factor in row:
            if not _is_factor_but_for_wants(factor):
                return False
            left.append(factor[0])
    # Only now are factors compared, as only factors can be relied on to have an order.
    for row in rows:
        if list(row) != sorted(row):
            return False
    return True


def _is_factor_but_for_wants(thing):
    """Whether the thing is a factor if all that it wants are factors, in order."""
    if type(thing) is not tuple or len(thing) != 2:
        return False
    wants, number = thing
    return type(wants) is tuple and is_base_number(number)


def kind_of(form):
    """The kind that the form tells, its factors as pairs from the left."""
    if not is_form(form):
        raise NoForm("this is not a form")
    return _kind_of_factors(form)


def _kind_of_factors(factors):
    """The kind of what surely are factors."""
    kinds = []
    for wants, number in factors:
        kind = ("base", number)
        if wants:
            kind = ("from", _kind_of_factors(wants), kind)
        kinds.append(kind)
    if not kinds:
        return ("unit",)
    whole = kinds.pop()
    while kinds:
        whole = ("both", kinds.pop(), whole)
    return whole


def alike(one, other):
    """Whether the two kinds have the same form."""
    return form(one) == form(other)
