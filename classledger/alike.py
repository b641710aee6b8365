"""Curves that are alike, their turns and invariants."""

from math import gcd

from classledger.curves import check_curve, is_curve_prime
from classledger.errors import Malformed, Refused
from classledger.whole import inverse, is_integer

# Told curves and changes are refused for primes above it.
LARGEST = 10000


def turns_number(curve):
    """Return the number of the turns of what is known to be a curve."""
    p, a, b = curve
    if a == 0:
        return gcd(6, p - 1)
    if b == 0:
        return gcd(4, p - 1)
    return 2


def curve_turns(curve):
    """Return the number w of the turns of a curve."""
    check_curve(curve)
    return turns_number(curve)


def curve_invariant(curve):
    """Return the invariant of a curve."""
    check_curve(curve)
    p, a, b = curve
    cube = 4 * a * a * a
    return 1728 * cube * inverse(cube + 27 * b * b, p) % p


def changed(curve, u):
    """Return the curve that u makes of a curve."""
    p, a, b = curve
    square = u * u % p
    fourth = square * square % p
    return (p, fourth * a % p, fourth * square * b % p)


def _check_tried(curve):
    """Refuse a curve over a prime whose rests are too many to be tried."""
    if curve[0] > LARGEST:
        raise Refused("large")


def told_curve(curve):
    """Return the told curve of the class of a curve."""
    check_curve(curve)
    _check_tried(curve)
    return min([changed(curve, u) for u in range(1, curve[0])])


def alike_change(one, two):
    """Return the least u from 1 on that makes the one curve the other one, or None."""
    check_curve(one)
    check_curve(two)
    if one[0] != two[0]:
        raise Malformed("unlike primes")
    _check_tried(one)
    for u in range(1, one[0]):
        if changed(one, u) == two:
            return u
    return None


def curve_of(p, j):
    """Return the told curve of the invariant j modulo p."""
    if not is_curve_prime(p) or not is_integer(j):
        raise Malformed("no prime or no integer")
    j %= p
    if j == 0:
        return (p, 0, 1)
    if j == 1728 % p:
        return (p, 1, 0)
    k = j * inverse(1728 - j, p)
    return (p, 3 * k % p, 2 * k % p)
