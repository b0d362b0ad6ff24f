"""Rests of powers by divisors, and how many numbers below a divisor share no part with it."""

from math import gcd, isqrt

# Without its parts up to this one, a divisor is 1, a prime or a product of two primes: three greater
# ones would make more than any divisor.
GREATEST_TRIED = 1000
# What is no prime, but has the look of one by all of these, is greater than any divisor (Jaeschke).
WITNESSES = (2, 7, 61)


def rest_of_power(number, times, by):
    """The rest of the number to the power of the other one, by squaring."""
    found = 1 % by
    while times > 0:
        if times & 1:
            found = found * number % by
        number = number * number % by
        times >>= 1
    return found


def without_shared_part(number):
    """How many of the numbers up to this one share no part with it."""
    found = left = number
    if number % 2 == 0:
        found -= found // 2
        left = _without_part(left, 2)
    for part in range(3, min(isqrt(left), GREATEST_TRIED) + 1, 2):
        if left % part == 0:
            found -= found // part
            left = _without_part(left, part)
            if part * part > left:
                break
    for part in _great_primes(left):
        found -= found // part
    return found


def _without_part(number, part):
    """The number divided by the part as often as that goes."""
    while number % part == 0:
        number //= part
    return number


def _great_primes(number):
    """The primes, each once, of which a number is made that has no part below itself up to
    GREATEST_TRIED."""
    if number == 1:
        return []
    if number < GREATEST_TRIED ** 2 or _is_prime(number):
        return [number]
    part = _part_of_two_primes(number)
    return [part] if part * part == number else [part, number // part]


def _is_prime(number):
    """Whether the number, which is odd and far greater than the witnesses, is a prime."""
    odd = _without_part(number - 1, 2)
    for witness in WITNESSES:
        if not _has_look_of_prime(number, odd, witness):
            return False
    return True


def _has_look_of_prime(number, odd, witness):
    """Whether powers of the witness have rest 1 as they have by a prime: from the first one on, or
    behind one of rest -1, as by a prime nothing else has a square of rest 1."""
    power = rest_of_power(witness, odd, number)
    if power == 1:
        return True
    while odd < number - 1:
        if power == number - 1:
            return True
        power = power * power % number
        odd *= 2
    return False


def _part_of_two_primes(number):
    """One of the two primes, each greater than GREATEST_TRIED, of which the number is the product.

    Lehman: a few times the number, taken four times, is a square less another one. One of the primes
    is in the sum of what is squared, and not both, as this sum is less than the number.
    """
    times = 0
    while True:
        times += 1
        whole = 4 * times * number
        least = isqrt(whole - 1) + 1
        for more in range(least, least + 8 // isqrt(times) + 1):
            fewer = isqrt(more * more - whole)
            if fewer * fewer == more * more - whole:
                return gcd(more + fewer, number)
