"""Bounds for the rings of machines that count lots."""

from math import lcm

from lotsayings.cuts import check_number, is_int
from lotsayings.errors import BadNumber

PRIMES = (2, 3, 5, 7, 11, 13)
MOST_COUNTS = 60


def order_of(p, d):
    """The least number f >= 1 for which d, with all its factors p taken out, divides p^f - 1."""
    if not is_int(p) or p not in PRIMES:
        raise BadNumber("p")
    check_number(d, "d", 1, MOST_COUNTS)
    rest = without_factor(d, p)
    order = 1
    power = p
    while (power - 1) % rest != 0:
        power = power * p
        order += 1
    return order


def without_factor(number, p):
    """The number with all its factors p taken out."""
    while number % p == 0:
        number = number // p
    return number


def num_bound(m, d, s):
    """The least common multiple of the shares of all primes that divide m."""
    check_number(m, "m", 2, 12)
    check_number(d, "d", 1, MOST_COUNTS)
    check_number(s, "s", 1, 100)
    bound = 1
    for p in PRIMES:
        if m % p == 0:
            bound = lcm(bound, share_of_prime(p, m, d, s))
    return bound


def share_of_prime(p, m, d, s):
    """The share of a prime that divides m: (p^f - 1) * p^(e + k - 1)."""
    share = power_of(p, order_of(p, d)) - 1
    least_power = 1
    while least_power < s:
        least_power = least_power * p
    highest = m // without_factor(m, p)
    return share * least_power * (highest // p)


def power_of(p, exponent):
    """The exponent-th power of p."""
    power = 1
    for _ in range(exponent):
        power = power * p
    return power
