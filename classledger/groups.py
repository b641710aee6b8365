"""Groups of points: structures, rows of points, combinations and logarithms."""

from classledger.curves import check_curve, check_points, is_point, multiple_of, sum_of, told_points
from classledger.errors import Malformed
from classledger.logs import chain_of, parts_of, power_log, row_within
from classledger.orders import order_within, told_count, trace_bound
from classledger.pairing import pairing_of
from classledger.primes import factors
from classledger.rows import solve
from classledger.whole import is_integer, raised


def _has_order(curve, P, n):
    """Return True if the value n is the order of a point."""
    p = curve[0]
    # No order is greater, and greater integers may have no told factors.
    if not is_integer(n) or not 1 <= n <= p + 1 + trace_bound(p):
        return False
    return multiple_of(curve, n, P) == () and order_within(curve, P, n) == n


def is_point_group(curve, value):
    """Return True if the value is a group of the curve."""
    check_curve(curve)
    if not isinstance(value, tuple) or len(value) != 4:
        return False
    G, n, H, m = value
    if not is_point(curve, G) or not is_point(curve, H):
        return False
    if not _has_order(curve, G, n) or not _has_order(curve, H, m) or n % m:
        return False
    for q, _ in factors(m):
        if pairing_of(curve, q, multiple_of(curve, n // q, G), multiple_of(curve, m // q, H)) == 1:
            return False
    return True


def whole_group(curve):
    """Return a whole group of a curve."""
    check_curve(curve)
    count = told_count(curve)
    G, n, H, m = (), 1, (), 1
    for q, e in factors(count):
        A, a, B, b = _prime_part(curve, count, q, e)
        G, n = sum_of(curve, G, A), n * raised(q, a)
        H, m = sum_of(curve, H, B), m * raised(q, b)
    return (G, n, H, m)


def _prime_part(curve, count, q, e):
    """Return independent points A and B with the exponents a and b, a + b = e, of their orders q^a and q^b."""
    cofactor = count // raised(q, e)
    A, a, B, b = (), 0, (), 0
    chain = None
    x = 0
    while a + b < e:
        for R in told_points(curve, x)[:1]:
            R = multiple_of(curve, cofactor, R)
            k = _exponent(curve, q, R)
            if k > a:
                A, a, B, b = R, k, (), 0
                if a < e:
                    chain = chain_of(curve, q, a, A)
            elif k > b:
                left, k = _independent(curve, chain, R)
                if k > b:
                    B, b = left, k
        x += 1
    return A, a, B, b


def _exponent(curve, q, R):
    """Return the least k from 0 on for which the multiple of a point by q^k is ()."""
    k = 0
    while R != ():
        R = multiple_of(curve, q, R)
        k += 1
    return k


def _independent(curve, chain, R):
    """Return R less a multiple of the point of the chain, with the least k for which q^k times it is ()."""
    q, _, A, _ = chain
    k = 0
    factor = 1
    times = power_log(curve, chain, R)
    while times is None:
        k += 1
        factor *= q
        times = power_log(curve, chain, multiple_of(curve, factor, R))
    # The order of R is at most that of A, so the factor divides this multiple.
    return sum_of(curve, R, multiple_of(curve, -(times // factor), A)), k


def point_structure(curve):
    """Return the structure (m, n) of a curve."""
    _, n, _, m = whole_group(curve)
    return (m, n)


def row_of_point(curve, group, P):
    """Return the row of a point of a group, or None if the point is none of its points."""
    check_points(curve, (P,))
    if not is_point_group(curve, group):
        raise Malformed("no group")
    return row_within(curve, group, parts_of(curve, group), P)


def point_combination(curve, points, P):
    """Return integers by which multiples of the points have the sum P, or None."""
    check_points(curve, (P,))
    if not isinstance(points, (list, tuple)):
        raise Malformed("no points")
    check_points(curve, points)
    group = whole_group(curve)
    parts = parts_of(curve, group)
    rows = [row_within(curve, group, parts, R) for R in points]
    _, n, _, m = group
    found = solve(rows + [(n, 0), (0, m)], 2, row_within(curve, group, parts, P))
    return None if found is None else found[:len(points)]


def point_logarithm(curve, P, Q):
    """Return the least k from 0 on with k P = Q, or None."""
    check_points(curve, (P, Q))
    group = (P, order_within(curve, P, told_count(curve)), (), 1)
    row = row_within(curve, group, parts_of(curve, group), Q)
    return None if row is None else row[0]
