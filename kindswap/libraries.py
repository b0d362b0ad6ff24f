"""Libraries: the things in them that are alike to what is wished, or to functions to it."""

from kindswap.errors import NoLibrary, NoName
from kindswap.forms import form, is_form, kind_of
from kindswap.kinds import is_kind, need_kind
from kindswap.turners import turn_fault, turner


def search(library, kind):
    """For each thing that is alike to the kind, or would be if more were handed in, its name, what
    more it wants, and the turners there and back; a new list."""
    need_kind(kind)
    _need_library(library)
    wished = form(kind)
    found = []
    for name, thing in library:
        wants = _wants_or_none(form(thing), wished)
        if wants is not None:
            function = _wished_function(wants, kind)
            found.append((name, wants, turner(thing, function), turner(function, thing)))
    return found


def search_fault(library, kind, name, thing):
    """None where the thing, which may be anything, is what is found by the name, else why not."""
    need_kind(kind)
    _need_library(library)
    looked_at = _kind_by_name(library, name)
    if type(thing) is not tuple or len(thing) != 3 or not is_form(thing[0]):
        return ("form",)
    wants, there, back = thing
    return turn_fault(looked_at, _wished_function(wants, kind), there, back)


def _need_library(thing):
    """Refuse what is no library."""
    if type(thing) is not list or not all([_is_row(row) for row in thing]):
        raise NoLibrary("this is not a library")
    if len({row[0] for row in thing}) < len(thing):
        raise NoLibrary("two things have the same name")


def _is_row(thing):
    """Whether the thing, which may be anything, is a name with a kind."""
    return type(thing) is tuple and len(thing) == 2 and type(thing[0]) is str and is_kind(thing[1])


def _kind_by_name(library, name):
    """The kind of the thing that has the name, which may be anything."""
    if type(name) is str:
        for own_name, kind in library:
            if own_name == name:
                return kind
    raise NoName("nothing in the library has this name")


def _wished_function(wants, kind):
    """The kind, or the functions to it from what is wanted."""
    return ("from", kind_of(wants), kind) if wants else kind


def _wants_or_none(factors, wished):
    """The form from which functions to the wished factors have these ones, None without one.

    If anything is wished, no more than one form does: factors are as sums of products, in which a
    product and one that it is made of tell the other one. If not, every form does, or none.
    """
    if not wished:
        return None if factors else []
    if len(factors) != len(wished):
        return None
    fewer, number = wished[0]
    for more, own_number in factors:
        wants = _without(more, fewer)
        if own_number == number and wants is not None and _wanting(wished, wants) == factors:
            return wants
    return None


def _without(more, fewer):
    """What is in the one sorted row, but not in the other; None if it lacks something of that."""
    found = []
    left = list(fewer)
    left.reverse()
    for factor in more:
        if left and left[-1] == factor:
            left.pop()
        else:
            found.append(factor)
    return None if left else found


def _wanting(factors, wants):
    """The factors of functions to these factors, that take what is wanted."""
    return sorted([(tuple(sorted(list(own) + wants)), number) for own, number in factors])
