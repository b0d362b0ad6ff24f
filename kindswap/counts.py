"""Numbers of worths: told, their rests, and what tells unlike kinds from one another by them."""

from kindswap.errors import NoDivisor, TooMany
from kindswap.forms import alike
from kindswap.kinds import BASE_LETTERS, need_kind
from kindswap.sized import GREATEST_SIZE, TOO_GREAT, by_sizes, is_sizes, sized_kind

LEAST_DIVISOR = 2
GREATEST_DIVISOR = 10 ** 9
# A prime, as are (this - 1) // 2, (that - 1) // 2 and so on, seven in all, each of more than a
# million. A power's rest hangs on the rest of what it is raised to by (nearly) the next of them:
# so differences up to seven powers within one another stay to be seen.
APART_BY = 71850239
# By far the most unlike kinds are told apart by the first sizes; only where more factors than
# promised stand within one another, there might be none at all.
MOST_SIZES_TRIED = 200
# By 1 all powers are the same, and by 2 the product of two and their power.
LEAST_TRIED = 3


def many(kind, sizes):
    """How many worths the kind has by the sizes."""
    whole = sized_kind(kind, sizes)
    if whole.many == TOO_GREAT:
        raise TooMany("the number of worths has more than forty figures")
    return whole.many


def rest(kind, sizes, by):
    """The rest of the number of the kind's worths by the divisor."""
    whole = sized_kind(kind, sizes)
    if not _is_divisor(by):
        raise NoDivisor("this is not a divisor")
    return _rest(whole, by)


def _is_divisor(thing):
    """Whether the thing, which may be anything, is a divisor by which rests are told."""
    return type(thing) is int and LEAST_DIVISOR <= thing <= GREATEST_DIVISOR


def _rest(kind, by):
    """The rest of the number of a sized kind's worths."""
    if kind.many < TOO_GREAT:
        return kind.many % by
    return _rest_by_row(kind, _divisors(by), 0)


def _divisors(by):
    """The divisor, behind each one how many numbers below it share no part with it, up to 1."""
    row = [by]
    while row[-1] > 1:
        row.append(_without_shared_part(row[-1]))
    return row


def _without_shared_part(number):
    """How many of the numbers below this one share no part with it."""
    found = number
    left = number
    part = 2
    while part * part <= left:
        if left % part == 0:
            found -= found // part
            while left % part == 0:
                left //= part
        part += 1 if part == 2 else 2
    if left > 1:
        found -= found // left
    return found


def _rest_by_row(kind, divisors, at):
    """The rest of the number of a sized kind's worths by one divisor of the row."""
    by = divisors[at]
    if kind.many < TOO_GREAT or by == 1:
        return kind.many % by
    other = _rest_by_row(kind.other, divisors, at)
    if kind.word == "both":
        return _rest_by_row(kind.one, divisors, at) * other % by
    times = kind.one.many
    if times == TOO_GREAT:
        # Euler: the powers come again by the next divisor's steps, at the latest from it on.
        times = _rest_by_row(kind.one, divisors, at + 1) + divisors[at + 1]
    return _rest_of_power(other, times, by)


def _rest_of_power(number, times, by):
    """The rest of the number to the power of the other one, by squaring."""
    found = 1 % by
    while times > 0:
        if times & 1:
            found = found * number % by
        number = number * number % by
        times >>= 1
    return found


def apart(one, other):
    """None for alike kinds, else sizes and a divisor by which they have unlike rests.

    Where more than six factors stand within one another in a form, these may have the same rest.
    """
    if alike(one, other):
        return None
    sizes = []
    state = 1
    for _ in range(MOST_SIZES_TRIED):
        sizes = []
        for _ in BASE_LETTERS:
            # A row of numbers without any plain pattern, the same each time.
            state = state * 16807 % 2147483647
            sizes.append(LEAST_TRIED + state % (GREATEST_SIZE - LEAST_TRIED + 1))
        one_rest, other_rest = _both_rests(one, other, sizes, APART_BY)
        if one_rest != other_rest:
            break
    return (sizes, APART_BY)


def _both_rests(one, other, sizes, by):
    """The rests of the numbers of worths of what surely are kinds."""
    return _rest(by_sizes(one, sizes), by), _rest(by_sizes(other, sizes), by)


def apart_fault(one, other, thing):
    """None where the thing, which may be anything, tells the kinds apart, else what is wrong."""
    need_kind(one)
    need_kind(other)
    if type(thing) is not tuple or len(thing) != 2:
        return ("form",)
    sizes, by = thing
    if not is_sizes(sizes) or not _is_divisor(by):
        return ("form",)
    one_rest, other_rest = _both_rests(one, other, sizes, by)
    if one_rest != other_rest:
        return None
    return ("rest", one_rest)
