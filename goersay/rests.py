"""Rests: tuples (r, m), which a number has that leaves r by m (stage 1)."""

from math import gcd

from goersay.errors import NoNumber, NoRest

LETTERS = "abcdefghijklmnopqrstuvwxyz"
LONGEST_NAME = 8
MOST_BY = 1000


def is_number(thing):
    """Whether it is a whole number; truths are none."""
    return isinstance(thing, int) and not isinstance(thing, bool)


def is_name(thing):
    """Whether it is a text of 1 to 8 small letters."""
    if not isinstance(thing, str) or not 1 <= len(thing) <= LONGEST_NAME:
        return False
    return all([sign in LETTERS for sign in thing])


def is_rest(thing):
    """Whether it is a tuple (r, m), m from 1 on, r from 0 below m."""
    if not isinstance(thing, tuple) or len(thing) != 2:
        return False
    r, m = thing
    return is_number(r) and is_number(m) and 0 <= r < m


def has(rest, number):
    """Whether the number leaves what the rest says."""
    _check_rest(rest)
    check_number(number)
    r, m = rest
    return number % m == r


def both(one, other):
    """The rest that just those numbers have that have both, None where none does."""
    _check_rest(one)
    _check_rest(other)
    r, m = one
    s, n = other
    shared = gcd(m, n)
    if (s - r) % shared != 0:
        return None
    # Of r, r + m, r + 2 * m .. one of each n // shared in a row leaves s by n.
    period = n // shared
    steps = (s - r) // shared * _inverse(m // shared, period) % period
    return (r + m * steps, m * period)


def by(rest, m):
    """The rising list of what numbers that have the rest may leave by m."""
    _check_rest(rest)
    check_between(m, 1, MOST_BY)
    shared = gcd(rest[1], m)
    return list(range(rest[0] % shared, m, shared))


def moved(rest, k):
    """The rest of the numbers that are k greater than those that have this one."""
    _check_rest(rest)
    check_number(k)
    r, m = rest
    return ((r + k) % m, m)


def least(rest):
    """The least number from 0 on that has the rest."""
    _check_rest(rest)
    return rest[0]


def check_number(thing):
    """NoNumber of what is no number."""
    if not is_number(thing):
        raise NoNumber("a whole number is due")


def check_between(thing, low, high):
    """NoNumber of what is no number from low to high."""
    if not is_number(thing) or not low <= thing <= high:
        raise NoNumber(f"a number from {low} to {high} is due")


def _check_rest(thing):
    if not is_rest(thing):
        raise NoRest("a tuple (r, m) is due, r from 0 below m")


def _inverse(number, m):
    """What, times a number that shares no divisor with m, leaves 1 by m (0 by 1)."""
    high, low = number, m
    turns, others = 1, 0
    # All along, number * turns leaves the same by m as high does; high ends as 1.
    while low != 0:
        quotient = high // low
        high, low = low, high - quotient * low
        turns, others = others, turns - quotient * others
    return turns
