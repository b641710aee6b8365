"""Numbers of the points of curves, and orders of points."""

from math import lcm

from classledger.curves import (
    check_curve, check_points, multiple_of, negative_of, right_side, sum_of, told_points, told_twist)
from classledger.primes import factors
from classledger.whole import joined, root

# To this prime the points are counted by symbols.
LARGEST_COUNTED = 10000


def symbols(p):
    """Return the list of the symbols (x / p) of all x from 0 to p - 1."""
    told = [-1] * p
    told[0] = 0
    for x in range(1, p // 2 + 1):
        told[x * x % p] = 1
    return told


def trace_by_symbols(curve, told):
    """Return the trace, out of the list of all symbols."""
    return -sum([told[right_side(curve, x)] for x in range(curve[0])])


def trace_bound(p):
    """Return the greatest integer whose square is at most 4 p."""
    return root(4 * p, 2)


def told_count(curve):
    """Return the number of the points of what is known to be a curve."""
    p = curve[0]
    if p <= LARGEST_COUNTED:
        return p + 1 - trace_by_symbols(curve, symbols(p))
    return _count_by_steps(curve)


def point_count(curve):
    """Return the number of the points of a curve."""
    check_curve(curve)
    return told_count(curve)


def curve_trace(curve):
    """Return the trace of a curve."""
    check_curve(curve)
    return curve[0] + 1 - told_count(curve)


def point_order(curve, P):
    """Return the order of a point."""
    check_points(curve, (P,))
    return order_within(curve, P, told_count(curve))


def order_within(curve, P, k):
    """Return the order of a point P with k P = ()."""
    for q, times in factors(k):
        for _ in range(times):
            if multiple_of(curve, k // q, P) != ():
                break
            k //= q
    return k


def _count_by_steps(curve):
    """Return the number of points that the orders of points of the curve and its twist leave."""
    p = curve[0]
    sides = (curve, told_twist(curve))
    known = [1, 1]
    x = 0
    while True:
        for at, side in enumerate(sides):
            points = told_points(side, x)
            if points:
                known[at] = lcm(known[at], _order_by_steps(side, points[0]))
                numbers = _numbers_left(p, known)
                if len(numbers) == 1:
                    return numbers[0]
        x += 1


def _numbers_left(p, known):
    """Return the first two numbers of points that are multiples as known tells, as far as there are two."""
    r = trace_bound(p)
    s, m = joined(((0, known[0]), (2 * p + 2, known[1])))
    first = p + 1 - r + (s - p - 1 + r) % m
    return [number for number in (first, first + m) if number <= p + 1 + r]


def _order_by_steps(curve, P):
    """Return the order of a point by small and great steps."""
    p = curve[0]
    r = trace_bound(p)
    size = root(2 * r, 2) + 1
    small = {}
    T = P
    for j in range(1, size + 1):
        if T == ():
            return j
        small.setdefault(T[0], j)
        T = sum_of(curve, T, P)
    stride = multiple_of(curve, 2 * size + 1, P)
    k = p + 1 - r
    T = multiple_of(curve, k, P)
    while T != () and T[0] not in small:
        T = sum_of(curve, T, stride)
        k += 2 * size + 1
    if T != ():
        j = small[T[0]]
        k += j if T == negative_of(curve, multiple_of(curve, j, P)) else -j
    return order_within(curve, P, k)
