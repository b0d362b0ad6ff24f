"""Kinds by sizes of their bases: how many worths they have, and which."""

from kindswap.errors import NoSizes
from kindswap.kinds import BASE_LETTERS, need_kind

GREATEST_SIZE = 999
# The least number of more than forty figures. Greater ones are reckoned as this one: a power of
# them might be too great for any memory.
TOO_GREAT = 10 ** 40
# So many worths are told one by one, and so many entries a function may have.
MOST_TOLD = 5000
# So many things are looked at in one row: what stands in them is put into a row, too.
LONGEST_ROW = 1000


class Sized:
    """A kind by sizes, with the number of its worths, TOO_GREAT at most."""

    def __init__(self, word, one, other, many):
        self.word = word
        self.one = one
        self.other = other
        self.many = many
        # The most worths of anything that a function in the kind takes, 0 without functions.
        self.most_taken = 0
        if one is not None:
            self.most_taken = max(one.most_taken, other.most_taken)
        if word == "from":
            self.most_taken = max(self.most_taken, one.many)


def sized_kind(kind, sizes):
    """The kind by the sizes; refuses what is no kind, then what are no sizes."""
    need_kind(kind)
    need_sizes(sizes)
    return by_sizes(kind, sizes)


def is_sizes(thing):
    """Whether the thing, which may be anything, tells a size for each base."""
    if type(thing) is not list or len(thing) != len(BASE_LETTERS):
        return False
    return all(type(size) is int and 1 <= size <= GREATEST_SIZE for size in thing)


def need_sizes(thing):
    """Refuse what are no sizes."""
    if not is_sizes(thing):
        raise NoSizes("these are not the sizes of the bases")


def by_sizes(kind, sizes):
    """What surely is a kind, by what surely are sizes."""
    word = kind[0]
    if word == "base":
        return Sized(word, None, None, sizes[kind[1]])
    if word == "unit":
        return Sized(word, None, None, 1)
    one = by_sizes(kind[1], sizes)
    other = by_sizes(kind[2], sizes)
    if word == "both":
        return Sized(word, one, other, min(one.many * other.many, TOO_GREAT))
    return Sized(word, one, other, _power(other.many, one.many))


def _power(number, times):
    """The number to the power of the other one, TOO_GREAT at most."""
    if number == 1:
        return 1
    whole = 1
    # From 2 on, no more than 133 steps are made, however often the number should come.
    while times > 0 and whole < TOO_GREAT:
        whole = whole * number
        times -= 1
    return min(whole, TOO_GREAT)


def all_worths(kind):
    """All worths of a sized kind, in order. It and what functions in it take have few enough."""
    if kind.word == "base":
        return list(range(kind.many))
    if kind.word == "unit":
        return [()]
    others = all_worths(kind.other)
    if kind.word == "both":
        return [(one, other) for one in all_worths(kind.one) for other in others]
    if len(others) == 1:
        # Here alone a function may have many entries, too many to be put one behind the other.
        return [(others[0],) * kind.one.many]
    rows = [()]
    for _ in range(kind.one.many):
        rows = [row + (other,) for row in rows for other in others]
    return rows


def has_worth(kind, thing):
    """Whether the thing, which may be anything, is a worth of the sized kind."""
    # Rows of things that are to be worths of one kind: one by one they would take far longer.
    left = [(kind, [thing])]
    while left:
        part, row = left.pop()
        if len(row) > LONGEST_ROW:
            for at in range(0, len(row), LONGEST_ROW):
                left.append((part, row[at:at + LONGEST_ROW]))
            continue
        if not _are_worths_but_for_entries(part, row):
            return False
        if part.word == "both":
            left.append((part.one, [item[0] for item in row]))
            left.append((part.other, [item[1] for item in row]))
        elif part.word == "from":
            left.append((part.other, [entry for item in row for entry in item]))
    return True


def _are_worths_but_for_entries(kind, row):
    """Whether all in the row are worths of the sized kind if all that stands in them is as well."""
    if kind.word == "base":
        # The very class is asked for: True and False are no whole numbers here.
        return all([type(item) is int and 0 <= item < kind.many for item in row])
    length = _length_of_worths(kind)
    return all([type(item) is tuple and len(item) == length for item in row])


def _length_of_worths(kind):
    """Of how many things a worth of the sized kind is, which is no base."""
    if kind.word == "unit":
        return 0
    return 2 if kind.word == "both" else kind.one.many


def place_of(kind, worth):
    """Which of all worths of the sized kind this one is, the first being 0."""
    if kind.many == 1:
        return 0
    if kind.word == "base":
        return worth
    if kind.word == "both":
        one, other = worth
        return place_of(kind.one, one) * kind.other.many + place_of(kind.other, other)
    place = 0
    for part in worth:
        place = place * kind.other.many + place_of(kind.other, part)
    return place
