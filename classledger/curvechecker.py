"""The judges of the papers of curves."""

from math import gcd

from classledger.curves import is_point, multiple_of, sum_of, told_twist
from classledger.pairing import pairing_of
from classledger.primechecker import is_paper
from classledger.rows import is_row
from classledger.whole import inverse, is_integer, power

# No curve over a prime to 10^10 has so many points.
LARGEST_ORDER = 2 * 10 ** 10


def _primes_of(k):
    """Return the ascending tuple of the primes that divide an integer from 1 on, by trial."""
    primes = []
    d = 2
    while k > 1:
        if d * d > k:
            d = k
        if k % d == 0:
            primes.append(d)
        while k % d == 0:
            k //= d
        d += 1 if d == 2 else 2
    return tuple(primes)


def _is_order(k):
    """Return True if the value is an integer that may be the order of a point."""
    return is_integer(k) and 1 <= k <= LARGEST_ORDER


def _has_order(curve, P, k, primes):
    """Return True if k, which these primes divide, is the order of a point."""
    if multiple_of(curve, k, P) != ():
        return False
    return not any([multiple_of(curve, k // q, P) == () for q in primes])


def takes_order(curve, P, paper):
    """Return True if the paper tells the order of a point."""
    if not is_paper(paper, "order", 3):
        return False
    _, k, primes = paper
    if not _is_order(k) or not isinstance(primes, tuple) or not is_row(primes, len(primes)):
        return False
    return primes == _primes_of(k) and _has_order(curve, P, k, primes)


def _is_group(curve, value):
    """Return True if the value is a group of a curve."""
    if not isinstance(value, tuple) or len(value) != 4:
        return False
    G, n, H, m = value
    if not is_point(curve, G) or not is_point(curve, H) or not _is_order(n) or not _is_order(m) or n % m:
        return False
    primes = _primes_of(m)
    if not _has_order(curve, G, n, _primes_of(n)) or not _has_order(curve, H, m, primes):
        return False
    return not any([_pairing(curve, value, q) == 1 for q in primes])


def _pairing(curve, group, q):
    """Return the pairing for a prime q of the multiples of the order q of the two points of a group."""
    G, n, H, m = group
    return pairing_of(curve, q, multiple_of(curve, n // q, G), multiple_of(curve, m // q, H))


def takes_number(curve, paper):
    """Return True if the paper tells the number of the points of a curve, and its structure."""
    if not is_paper(paper, "number", 3):
        return False
    _, one, two = paper
    if not _is_group(curve, one) or not _is_group(told_twist(curve), two):
        return False
    return one[1] * one[3] + two[1] * two[3] == 2 * curve[0] + 2


def takes_log(curve, P, Q, paper):
    """Return True if the paper shows that Q is a multiple of P, or that it is none."""
    if is_paper(paper, "log", 2):
        k = paper[1]
        return is_integer(k) and k >= 0 and multiple_of(curve, k, P) == Q
    if not is_paper(paper, "none", 7) or not takes_number(curve, paper[1]):
        return False
    group = paper[1][1]
    return _has_row(curve, group, paper[2], P) and _has_row(curve, group, paper[3], Q) and _is_barred(group, paper[2:])


def _has_row(curve, group, row, P):
    """Return True if the row tells a point in a group."""
    if not is_row(row, 2):
        return False
    G, n, H, m = group
    i, j = row
    # Rests instead of the integers themselves, so that great integers take no longer.
    return sum_of(curve, multiple_of(curve, i % n, G), multiple_of(curve, j % m, H)) == P


def _is_barred(group, items):
    """Return True if s, t and M show that the second row is no multiple of the first one in the group."""
    (i, j), (u, v), s, t, M = items
    if not is_row((s, t, M), 3) or M < 2:
        return False
    _, n, _, m = group
    return s * n % M == 0 and t * m % M == 0 and (s * i + t * j) % M == 0 and (s * u + t * v) % M != 0


def takes_curves(one, two, paper):
    """Return True if the paper shows that two curves over one prime are alike, or that they are not."""
    if is_paper(paper, "same", 2):
        return _leads_to(one, two, paper[1])
    if is_paper(paper, "zero", 1):
        return not _zeros_agree(one, two)
    if is_paper(paper, "unlike", 1):
        return _has_no_zero(one) and _has_no_zero(two) and not _cubes_agree(one, two)
    if is_paper(paper, "power", 1):
        return _zeros_agree(one, two) and (not _has_no_zero(one) or _cubes_agree(one, two)) and _is_no_power(one, two)
    return False


def _leads_to(one, two, u):
    """Return True if u makes the one curve the other one."""
    p, a, b = one
    if not is_integer(u) or not 1 <= u < p:
        return False
    square = u * u % p
    return two == (p, square * square * a % p, square * square * square * b % p)


def _has_no_zero(curve):
    """Return True if neither a nor b is 0."""
    return curve[1] != 0 and curve[2] != 0


def _zeros_agree(one, two):
    """Return True if a and b are 0 in one curve exactly if they are in the other one."""
    return (one[1] == 0) == (two[1] == 0) and (one[2] == 0) == (two[2] == 0)


def _cubes_agree(one, two):
    """Return True if a^3 d^2 and c^3 b^2 are the same."""
    p, a, b = one
    _, c, d = two
    return (a * a * a * d * d - c * c * c * b * b) % p == 0


def _is_no_power(one, two):
    """Return True if the r of point 9.3 to the power (p - 1) / g is not 1."""
    p, a, b = one
    _, c, d = two
    if a and b:
        r, g = a * d * inverse(b * c, p), 2
    elif a:
        r, g = c * inverse(a, p), gcd(4, p - 1)
    else:
        r, g = d * inverse(b, p), gcd(6, p - 1)
    return power(r, (p - 1) // g, p) != 1
