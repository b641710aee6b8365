"""Graphs of supersingular invariants: members, tables, loops and walks."""

from math import comb

from classledger.alike import curve_of
from classledger.curves import is_curve
from classledger.definite import hurwitz
from classledger.errors import Malformed, Refused
from classledger.members import (
    check_joining, check_prime, divided, joining_polynomial, member_root, multiple_in, sum_in, times_in, value_in)
from classledger.orders import symbols, trace_by_symbols
from classledger.signs import fundamental
from classledger.squares import nonsquare
from classledger.whole import inverse, is_integer, kronecker, power, root

# Tables B_n are refused for greater n.
LARGEST_TABLE = 300


def _members_number(p):
    """Return the number of supersingular members."""
    return p // 12 + {1: 0, 5: 1, 7: 1, 11: 2}[p % 12]


def _first_member(p):
    """Return the supersingular member (j, 0) with the least j that belongs to a curve with the trace 0."""
    table = symbols(p)
    j = 0
    while trace_by_symbols(curve_of(p, j), table):
        j += 1
    return (j, 0)


def _told_root(p, d, polynomial):
    """Return a root (c, 0) of a polynomial that has one."""
    c = 0
    while value_in(p, d, polynomial, (c, 0)) != (0, 0):
        c += 1
    return (c, 0)


def _other_roots(p, d, j, known):
    """Return the two roots of F_2(x, j) beside a known one."""
    quotient, _ = divided(p, d, joining_polynomial(p, d, 2, j), known)
    _, b, c = quotient
    minus = multiple_in(p, -1, b)
    s = member_root(p, d, sum_in(p, times_in(p, d, b, b), multiple_in(p, -4, c)))
    half = inverse(2, p)
    return [multiple_in(p, half, sum_in(p, minus, multiple_in(p, sign, s))) for sign in (1, -1)]


def _all_members(p):
    """Return the ascending list of all supersingular members."""
    d = nonsquare(p)
    number = _members_number(p)
    first = _first_member(p)
    known = _told_root(p, d, joining_polynomial(p, d, 2, first))
    found = {first: known}
    waiting = [first]
    if known not in found:
        found[known] = first
        waiting.append(known)
    while len(found) < number:
        j = waiting.pop()
        roots = _other_roots(p, d, j, found[j])
        for k in roots:
            if k not in found:
                found[k] = j
                waiting.append(k)
    return sorted(found)


def supersingular_members(p):
    """Return the ascending tuple of all supersingular members."""
    check_prime(p)
    return tuple(_all_members(p))


def _check_member(j, members):
    """Raise Malformed if the value is none of the members."""
    if not isinstance(j, tuple) or j not in members or not all([is_integer(x) for x in j]):
        raise Malformed("no supersingular member")


def _weight(p, j):
    """Return the weight of a supersingular member."""
    return {(0, 0): 3, (1728 % p, 0): 2}.get(j, 1)


def member_weight(p, j):
    """Return the weight of a supersingular member."""
    check_prime(p)
    _check_member(j, _all_members(p))
    return _weight(p, j)


def _edges(p, l, members):
    """Return the rows of B_l."""
    d = nonsquare(p)
    table = []
    for j in members:
        polynomial = joining_polynomial(p, d, l, j)
        table.append(tuple([_multiplicity(p, d, polynomial, k) for k in members]))
    return tuple(table)


def _multiplicity(p, d, polynomial, u):
    """Return how often a member is a root of a polynomial of members."""
    times = 0
    quotient, value = divided(p, d, polynomial, u)
    while value == (0, 0):
        times += 1
        quotient, value = divided(p, d, quotient, u)
    return times


def edge_table(p, l):
    """Return the rows of B_l."""
    check_prime(p)
    check_joining(l)
    return _edges(p, l, _all_members(p))


def _exponents(n):
    """Return the exponents (e, f) of n = 2^e 3^f; raise Malformed if the value n is no such integer."""
    if not is_integer(n) or n < 1:
        raise Malformed("no integer from 1 on")
    exponents = []
    for l in (2, 3):
        times = 0
        while n % l == 0:
            n //= l
            times += 1
        exponents.append(times)
    if n != 1:
        raise Malformed("another prime")
    return exponents


def _check_table(p, n):
    """Check the arguments of a table B_n, and return the exponents of n."""
    check_prime(p)
    exponents = _exponents(n)
    if n > LARGEST_TABLE:
        raise Refused("large")
    return exponents


def _times(one, two):
    """Return the product of two square tables of one size."""
    columns = list(zip(*two))
    return tuple([tuple([sum([a * b for a, b in zip(row, column)]) for column in columns]) for row in one])


def _power_table(edges, l, e):
    """Return B_(l^e), out of B_l."""
    size = len(edges)
    before = tuple([(0,) * size] * size)
    now = tuple([tuple([1 if k == i else 0 for k in range(size)]) for i in range(size)])
    for _ in range(e):
        after = _times(edges, now)
        # The step to B_l itself takes nothing away, because the table before is 0 there.
        after = tuple([tuple([a - l * b for a, b in zip(*rows)]) for rows in zip(after, before)])
        before, now = now, after
    return now


def brandt_table(p, n):
    """Return the rows of B_n."""
    e, f = _check_table(p, n)
    members = _all_members(p)
    return _times(_power_table(_edges(p, 2, members), 2, e), _power_table(_edges(p, 3, members), 3, f))


def _loops(p, n):
    """Return 24 H_p(n) for an integer n from 0 on that is 0 or 3 modulo 4."""
    if n == 0:
        return p - 1
    E, c = fundamental(-n)
    if c % p == 0:
        return _loops(p, n // (p * p))
    return hurwitz(n) * (1 - kronecker(E, p))


def loops_by_classes(p, n):
    """Return the sum of H_p(4 n - t^2) over all integers t with t^2 at most 4 n."""
    _check_table(p, n)
    most = root(4 * n, 2)
    return sum([_loops(p, 4 * n - t * t) for t in range(-most, most + 1)]) // 24


def _neighbours(p, l, members):
    """Return a dict from each member to the list of those that F_l joins with it."""
    told = {}
    for j, row in zip(members, _edges(p, l, members)):
        told[j] = [k for k, many in zip(members, row) if many]
    return told


def graph_walk(p, l, j, k):
    """Return a walk from j to k with as few items as there can be."""
    check_prime(p)
    check_joining(l)
    members = _all_members(p)
    _check_member(j, members)
    _check_member(k, members)
    neighbours = _neighbours(p, l, members)
    # From k on, so that each item knows the next one of the walk.
    ahead = {k: None}
    reached = [k]
    at = 0
    while j not in ahead:
        u = reached[at]
        at += 1
        for v in neighbours[u]:
            if v not in ahead:
                ahead[v] = u
                reached.append(v)
    walk = [j]
    while ahead[walk[-1]] is not None:
        walk.append(ahead[walk[-1]])
    return tuple(walk)


def graph_distance(p, l, j, k):
    """Return the number of the items of a shortest walk less 1."""
    return len(graph_walk(p, l, j, k)) - 1


def curve_mark(p, a, b):
    """Return the mark of the curve (p, a, b)."""
    check_prime(p)
    if not is_curve((p, a, b)):
        raise Malformed("no curve")
    half = p // 2
    mark = 0
    # x^(p-1) comes of i factors x^3, j factors a x and k factors b.
    for i in range((half + 1) // 2, 2 * half // 3 + 1):
        j, k = 2 * half - 3 * i, 2 * i - half
        mark += comb(half, i) * comb(half - i, j) * power(a, j, p) * power(b, k, p)
    return mark % p
