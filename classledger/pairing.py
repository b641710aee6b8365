"""The pairing of points of a prime order."""

from classledger.curves import LARGEST_PRIME, check_points, multiple_of, slope_of, sum_of
from classledger.errors import Malformed
from classledger.primes import is_prime
from classledger.whole import inverse, is_integer


def _line(curve, T, U, place):
    """Return the value at a place of the line of two points other than ()."""
    s = slope_of(curve, T, U)
    if s is None:
        return _upright(curve, T, place)
    (z, w), (x, y) = place, T
    return (w - y - s * (z - x)) % curve[0]


def _upright(curve, T, place):
    """Return the value at a place of the wall of a point."""
    if T == ():
        return 1
    return (place[0] - T[0]) % curve[0]


def _product(curve, q, P, place):
    """Return the product of q and a point P of the order q at a place, None if there is none."""
    p = curve[0]
    above = below = 1
    T = P
    for at in reversed(range(q.bit_length() - 1)):
        above = above * above * _line(curve, T, T, place) % p
        T = sum_of(curve, T, T)
        below = below * below * _upright(curve, T, place) % p
        if q >> at & 1:
            above = above * _line(curve, T, P, place) % p
            T = sum_of(curve, T, P)
            below = below * _upright(curve, T, place) % p
    # A value that is 0 makes one of both 0 to the end.
    if above == 0 or below == 0:
        return None
    return above * inverse(below, p) % p


def pairing_of(curve, q, P, Q):
    """Return the pairing for a prime q of two points whose multiples by q are ()."""
    if P == () or Q == () or P == Q:
        return 1
    first = _product(curve, q, P, Q)
    second = _product(curve, q, Q, P)
    if first is None or second is None:
        return 1
    p = curve[0]
    return first * inverse(second, p) * (-1 if q & 1 else 1) % p


def weil_pairing(curve, q, P, Q):
    """Return the pairing for a prime q of two points, an integer from 1 to p - 1."""
    check_points(curve, (P, Q))
    if not is_integer(q) or not 2 <= q <= LARGEST_PRIME or not is_prime(q):
        raise Malformed("no prime")
    if multiple_of(curve, q, P) != () or multiple_of(curve, q, Q) != ():
        raise Malformed("no multiple of the order")
    return pairing_of(curve, q, P, Q)
