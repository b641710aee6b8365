"""The makers of the papers of curves."""

from math import gcd

from classledger.curves import check_curve, check_points, told_twist
from classledger.errors import Malformed
from classledger.groups import point_logarithm, whole_group
from classledger.logs import parts_of, row_within
from classledger.orders import point_order
from classledger.primes import factors
from classledger.rows import bar
from classledger.squares import roots_modulo_prime
from classledger.whole import inverse, power


def order_paper(curve, P):
    """Return a paper of the order of a point."""
    k = point_order(curve, P)
    return ("order", k, tuple([q for q, _ in factors(k)]))


def number_paper(curve):
    """Return a paper of the number of the points of a curve."""
    check_curve(curve)
    return ("number", whole_group(curve), whole_group(told_twist(curve)))


def log_paper(curve, P, Q):
    """Return a paper that Q is a multiple of P, or that it is none."""
    check_points(curve, (P, Q))
    k = point_logarithm(curve, P, Q)
    if k is not None:
        return ("log", k)
    paper = number_paper(curve)
    group = paper[1]
    parts = parts_of(curve, group)
    one, two = row_within(curve, group, parts, P), row_within(curve, group, parts, Q)
    (s, t), modulus = bar((one, (group[1], 0), (0, group[3])), 2, two)
    return ("none", paper, one, two, s, t, modulus)


def alike_paper(one, two):
    """Return a paper that two curves are alike, or that they are not."""
    check_curve(one)
    check_curve(two)
    if one[0] != two[0]:
        raise Malformed("unlike primes")
    p, a, b = one
    _, c, d = two
    if (a == 0) != (c == 0) or (b == 0) != (d == 0):
        return ("zero",)
    if a and b and (a * a * a * d * d - c * c * c * b * b) % p:
        return ("unlike",)
    changes = _told_changes(one, two)
    return ("same", changes[0]) if changes else ("power",)


def _told_changes(one, two):
    """Return a list of integers that make the one curve the other one; where it is empty, there is none."""
    p, a, b = one
    _, c, d = two
    if a and b:
        return roots_modulo_prime(a * d * inverse(b * c, p), p)
    if a:
        squares = roots_modulo_prime(c * inverse(a, p), p)
    else:
        squares = _cube_roots(d * inverse(b, p) % p, p)
    return [u for square in squares for u in roots_modulo_prime(square, p)]


def _cube_roots(r, p):
    """Return a list of a cube root of a rest other than 0 modulo a prime, of none if there is none."""
    if power(r, (p - 1) // gcd(3, p - 1), p) != 1:
        return []
    odd, threes = p - 1, 0
    while odd % 3 == 0:
        odd //= 3
        threes += 1
    x = power(r, inverse(3, odd), p)
    # x^3 is r times left, whose order is a power of 3; so is that of the powers of turn, up to 3^threes.
    left = x * x * x * inverse(r, p) % p
    turn = power(_non_cube(p), odd, p) if threes else 1
    while left != 1:
        times, y = 0, left
        while y != 1:
            y = y * y * y % p
            times += 1
        step = turn
        for _ in range(threes - times - 1):
            step = step * step * step % p
        # One of both steps makes the order of left smaller.
        cube = step * step * step % p
        if _third_power(left * cube % p, times - 1, p) != 1:
            step, cube = step * step % p, cube * cube % p
        x = x * step % p
        left = left * cube % p
    return [x]


def _third_power(y, times, p):
    """Return the power of y by 3^times modulo p."""
    for _ in range(times):
        y = y * y * y % p
    return y


def _non_cube(p):
    """Return the least integer from 2 on that is no cube modulo a prime that is 1 modulo 3."""
    a = 2
    while power(a, (p - 1) // 3, p) == 1:
        a += 1
    return a
