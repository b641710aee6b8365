"""Curves over prime fields, their points and the sums of points."""

from classledger.errors import Malformed, Refused
from classledger.primes import is_prime
from classledger.rows import is_row
from classledger.squares import nonsquare, roots_modulo_prime
from classledger.whole import inverse, is_integer

LEAST_PRIME = 5
LARGEST_PRIME = 10 ** 10

# All points of a curve are refused for primes above it.
LARGEST_LISTED = 10000


def is_curve_prime(value):
    """Return True if the value is a prime over which there are curves."""
    return is_integer(value) and LEAST_PRIME <= value <= LARGEST_PRIME and is_prime(value)


def is_curve(value):
    """Return True if the value is a curve."""
    if not is_row(value, 3):
        return False
    p, a, b = value
    if not 0 <= a < p or not 0 <= b < p or not is_curve_prime(p):
        return False
    return (4 * a * a * a + 27 * b * b) % p != 0


def right_side(curve, x):
    """Return the rest of x^3 + a x + b."""
    p, a, b = curve
    return (x * x * x + a * x + b) % p


def _holds_point(curve, value):
    """Return True if the value is a point of what is known to be a curve."""
    if value == ():
        return True
    if not is_row(value, 2):
        return False
    p = curve[0]
    x, y = value
    return 0 <= x < p and 0 <= y < p and (y * y - right_side(curve, x)) % p == 0


def is_point(curve, value):
    """Return True if the value is a point of a curve."""
    return is_curve(curve) and _holds_point(curve, value)


def check_curve(curve):
    """Raise Malformed if the value is no curve."""
    if not is_curve(curve):
        raise Malformed("no curve")


def check_points(curve, points):
    """Raise Malformed if the curve is none, or one of the values is no point of it."""
    check_curve(curve)
    if not all([_holds_point(curve, P) for P in points]):
        raise Malformed("no point")


def negative_of(curve, P):
    """Return the negative of a point."""
    if P == ():
        return ()
    x, y = P
    return (x, -y % curve[0])


def slope_of(curve, P, Q):
    """Return the slope of two points other than (), None if their sum is ()."""
    p, a, _ = curve
    x, y = P
    u, v = Q
    if x != u:
        return (v - y) * inverse(u - x, p) % p
    if (y + v) % p == 0:
        return None
    return (3 * x * x + a) * inverse(2 * y, p) % p


def sum_of(curve, P, Q):
    """Return the sum of two points."""
    if P == ():
        return Q
    if Q == ():
        return P
    s = slope_of(curve, P, Q)
    if s is None:
        return ()
    x, y = P
    w = (s * s - x - Q[0]) % curve[0]
    return (w, (s * (x - w) - y) % curve[0])


def multiple_of(curve, k, P):
    """Return the multiple of a point by any integer."""
    if k < 0:
        k, P = -k, negative_of(curve, P)
    result = ()
    while k and P != ():
        if k & 1:
            result = sum_of(curve, result, P)
        k >>= 1
        if k:
            P = sum_of(curve, P, P)
    return result


def point_negative(curve, P):
    """Return the negative of a point."""
    check_points(curve, (P,))
    return negative_of(curve, P)


def point_sum(curve, P, Q):
    """Return the sum of two points."""
    check_points(curve, (P, Q))
    return sum_of(curve, P, Q)


def point_multiple(curve, k, P):
    """Return the multiple of a point by an integer."""
    check_points(curve, (P,))
    if not is_integer(k):
        raise Malformed("no integer")
    return multiple_of(curve, k, P)


def told_points(curve, x):
    """Return the ascending list of the points with the first item x modulo p."""
    p = curve[0]
    return [(x % p, y) for y in roots_modulo_prime(right_side(curve, x), p)]


def points_at(curve, x):
    """Return the ascending tuple of the points with the first item x modulo p."""
    check_curve(curve)
    if not is_integer(x):
        raise Malformed("no integer")
    return tuple(told_points(curve, x))


def all_points(curve):
    """Return the ascending tuple of all points, () ahead."""
    check_curve(curve)
    p = curve[0]
    if p > LARGEST_LISTED:
        raise Refused("large")
    roots = {}
    for y in range(p):
        roots.setdefault(y * y % p, []).append(y)
    points = [()]
    for x in range(p):
        points.extend([(x, y) for y in roots.get(right_side(curve, x), [])])
    return tuple(points)


def told_twist(curve):
    """Return the twist of what is known to be a curve."""
    p, a, b = curve
    d = nonsquare(p)
    return (p, a * d * d % p, b * d * d * d % p)


def twist_of(curve):
    """Return the twist of a curve."""
    check_curve(curve)
    return told_twist(curve)
