"""Numbers of worths: told, their rests, and what tells unlike kinds from one another by them."""

from kindswap.divisors import rest_of_power, without_shared_part
from kindswap.errors import NoDivisor, TooMany
from kindswap.forms import alike
from kindswap.kinds import BASE_LETTERS, need_kind
from kindswap.sized import GREATEST_SIZE, TOO_GREAT, by_sizes, is_sizes, sized_kind

LEAST_DIVISOR = 2
GREATEST_DIVISOR = 10 ** 9
# The first one is a prime, as are half of the second one and of the next ones, seven in all, each
# of more than a million. A power's rest by one of them hangs on the rest of what it is raised to by
# the next one, which is (nearly) such a prime: so differences up to seven powers within one another
# stay to be seen. Of each one the next one is how many numbers below it share no part with it.
APART_DIVISORS = (
    71850239, 71850238, 35925118, 17962558, 8981278, 4490638, 2245318, 1122658, 554484, 147840, 30720, 8192, 4096,
    2048, 1024, 512, 256, 128, 64, 32, 16, 8, 4, 2, 1)
# By far the most unlike kinds are told apart by the first sizes; only where more factors than
# promised stand within one another, there might be none at all.
MOST_SIZES_TRIED = 200
# By 1 all powers are the same, and by 2 the product of two and their power.
LEAST_TRIED = 3


def many(kind, sizes):
    """How many worths the kind has by the sizes."""
    whole = sized_kind(kind, sizes)
    if whole.many == TOO_GREAT:
        raise TooMany("the number of worths has more than forty figures")
    return whole.many


def rest(kind, sizes, by):
    """The rest of the number of the kind's worths by the divisor."""
    whole = sized_kind(kind, sizes)
    if not _is_divisor(by):
        raise NoDivisor("this is not a divisor")
    return _rest(whole, [by], 0)


def _is_divisor(thing):
    """Whether the thing, which may be anything, is a divisor by which rests are told."""
    return type(thing) is int and LEAST_DIVISOR <= thing <= GREATEST_DIVISOR


def _rest(kind, divisors, at):
    """The rest of the number of a sized kind's worths by one of a row of divisors.

    Behind each divisor stands how many numbers below it share no part with it; the row is made
    longer so far as it is needed.
    """
    by = divisors[at]
    if kind.many < TOO_GREAT or by == 1:
        return kind.many % by
    other = _rest(kind.other, divisors, at)
    if kind.word == "both":
        return _rest(kind.one, divisors, at) * other % by
    times = kind.one.many
    if times == TOO_GREAT:
        if at + 1 == len(divisors):
            divisors.append(without_shared_part(by))
        # Euler: the powers come again by the next divisor's steps, at the latest from it on.
        times = _rest(kind.one, divisors, at + 1) + divisors[at + 1]
    return rest_of_power(other, times, by)


def apart(one, other):
    """None for alike kinds, else sizes and a divisor by which they have unlike rests.

    Where more than six factors stand within one another in a form, these may have the same rest.
    """
    if alike(one, other):
        return None
    sizes = []
    state = 1
    for _ in range(MOST_SIZES_TRIED):
        sizes = []
        for _ in BASE_LETTERS:
            # A row of numbers without any plain pattern, the same each time.
            state = state * 16807 % 2147483647
            sizes.append(LEAST_TRIED + state % (GREATEST_SIZE - LEAST_TRIED + 1))
        one_rest, other_rest = _both_rests(one, other, sizes, list(APART_DIVISORS))
        if one_rest != other_rest:
            break
    return (sizes, APART_DIVISORS[0])


def _both_rests(one, other, sizes, divisors):
    """The rests of the numbers of worths of what surely are kinds, by the first of the divisors."""
    return _rest(by_sizes(one, sizes), divisors, 0), _rest(by_sizes(other, sizes), divisors, 0)


def apart_fault(one, other, thing):
    """None where the thing, which may be anything, tells the kinds apart, else what is wrong."""
    need_kind(one)
    need_kind(other)
    if type(thing) is not tuple or len(thing) != 2:
        return ("form",)
    sizes, by = thing
    if not is_sizes(sizes) or not _is_divisor(by):
        return ("form",)
    one_rest, other_rest = _both_rests(one, other, sizes, [by])
    if one_rest != other_rest:
        return None
    return ("rest", one_rest)
