"""The worths of a kind by sizes."""

from kindswap.errors import TooMany
from kindswap.sized import MOST_TOLD, all_worths, has_worth, sized_kind


def worths(kind, sizes):
    """All worths of the kind, in the order of tuples and numbers, a new list."""
    whole = sized_kind(kind, sizes)
    if whole.many > MOST_TOLD or whole.most_taken > MOST_TOLD:
        raise TooMany("there are more than five thousand worths")
    return all_worths(whole)


def is_worth(kind, sizes, thing):
    """Whether the thing, which may be anything, is a worth of the kind."""
    whole = sized_kind(kind, sizes)
    if whole.most_taken > MOST_TOLD:
        raise TooMany("a function takes one of more than five thousand worths")
    return has_worth(whole, thing)
