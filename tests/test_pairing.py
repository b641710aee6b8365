"""Points 8.8 and 8.9: products and the pairing."""

import itertools
import unittest

from classledger.curves import point_multiple, points_at
from classledger.orders import point_count
from classledger.pairing import weil_pairing
from tests import slow
from tests.test_curves import C, NO_CURVES, NO_POINTS, P
from tests.test_forms import malformed

# Curves with all points whose multiple by q is (), and the q.
FULL = (((5, 1, 0), 2), ((13, 0, 4), 2), ((7, 0, 1), 2), ((7, 0, 2), 3), ((31, 0, 1), 3), ((31, 0, 16), 2),
        ((11, 1, 0), 3), ((41, 1, 0), 5))


def line(curve, T, U, place):
    """Return the value of the line of two points at a place, by point 8.8."""
    p, a, _ = curve
    (x, y), (u, v), (z, w) = T, U, place
    if slow.added(curve, T, U) == ():
        return (z - x) % p
    s = (v - y) * pow(u - x, -1, p) if x != u else (3 * x * x + a) * pow(2 * y, -1, p)
    return (w - y - s * (z - x)) % p


def wall(curve, T, place):
    """Return the value of the wall of a point at a place."""
    return (place[0] - T[0]) % curve[0] if T else 1


def product(curve, q, P, place):
    """Return the product of point 8.8, division by division, None if there is none."""
    p = curve[0]
    g, T = 1, P
    for digit in bin(q)[3:]:
        values = [line(curve, T, T, place), wall(curve, slow.added(curve, T, T), place)]
        g, T = g * g, slow.added(curve, T, T)
        if 0 in values:
            return None
        g = g * values[0] * pow(values[1], -1, p) % p
        if digit == "1":
            values = [line(curve, T, P, place), wall(curve, slow.added(curve, T, P), place)]
            T = slow.added(curve, T, P)
            if 0 in values:
                return None
            g = g * values[0] * pow(values[1], -1, p) % p
    assert T == ()
    return g


def by_the_point(curve, q, P, Q):
    """Return the pairing as point 8.9 tells it."""
    if P == () or Q == () or P == Q:
        return 1
    one, two = product(curve, q, P, Q), product(curve, q, Q, P)
    if one is None or two is None:
        return 1
    return one * pow(two, -1, curve[0]) * (-1) ** q % curve[0]


def killed(curve, q):
    """Return all points whose multiple by q is ()."""
    return [Q for Q in slow.points(curve) if slow.multiplied(curve, q, Q) == ()]


class Pairing(unittest.TestCase):
    def test_by_the_point(self):
        for p in (5, 7, 11, 13):
            for curve in slow.curves(p):
                for q in (2, 3, 5, 7, 11, 13):
                    for one, two in itertools.product(killed(curve, q), repeat=2):
                        self.assertEqual(weil_pairing(curve, q, one, two), by_the_point(curve, q, one, two))

    def test_all_points(self):
        full = 0
        for curve, q in FULL:
            points = killed(curve, q)
            full += len(points) == q * q
            for one, two in itertools.product(points, repeat=2):
                e = weil_pairing(curve, q, one, two)
                self.assertEqual(e, by_the_point(curve, q, one, two))
                self.assertEqual(pow(e, q, curve[0]), 1)
                self.assertTrue(1 <= e < curve[0])
                multiples = [slow.multiplied(curve, k, a) == b for k in range(q) for a, b in ((one, two), (two, one))]
                self.assertEqual(e == 1, any(multiples))
                self.assertEqual(e * weil_pairing(curve, q, two, one) % curve[0], 1)
                for three in points[:6]:
                    told = weil_pairing(curve, q, slow.added(curve, one, two), three)
                    parts = weil_pairing(curve, q, one, three) * weil_pairing(curve, q, two, three)
                    self.assertEqual(told, parts % curve[0])
        self.assertGreaterEqual(full, 5)

    def test_two(self):
        for one, two in itertools.permutations(((0, 0), (2, 0), (3, 0)), 2):
            self.assertEqual(weil_pairing((5, 1, 0), 2, one, two), 4)

    def test_edges(self):
        for q in (2, 3, 5, 9999999967):
            self.assertEqual(weil_pairing(C, q, (), ()), 1)
        self.assertEqual(weil_pairing(C, 5, P, ()), 1)
        self.assertEqual(weil_pairing(C, 5, (), P), 1)
        self.assertEqual(weil_pairing(C, 5, P, P), 1)
        self.assertEqual(weil_pairing(C, 5, P, (0, 6)), 1)
        # As many points as p: the prime p itself, with multiples of one point.
        curve = (7, 3, 2)
        while len(slow.points(curve)) != curve[0]:
            curve = (7, curve[1], curve[2] + 1)
        for one, two in itertools.product(slow.points(curve), repeat=2):
            self.assertEqual(weil_pairing(curve, 7, one, two), 1)

    def test_great(self):
        # A curve with all points of the order 3 over a great prime: three and three of them are independent.
        p = 9999999943
        curve = (p, 0, 1)
        self.assertEqual((p % 3, point_count(curve) % 9), (1, 0))
        cofactor = point_count(curve)
        while cofactor % 3 == 0:
            cofactor //= 3
        met = set()
        for x in range(2, 30):
            for Q in points_at(curve, x):
                Q = point_multiple(curve, cofactor, Q)
                while point_multiple(curve, 3, Q) != ():
                    Q = point_multiple(curve, 3, Q)
                met.add(Q)
        self.assertEqual(len(met - {()}), 8)
        for one, two in itertools.product(sorted(met), repeat=2):
            e = weil_pairing(curve, 3, one, two)
            self.assertEqual(pow(e, 3, p), 1)
            multiples = (one == (), two == (), one == two, one == slow.negated(curve, two))
            self.assertEqual(e == 1, any(multiples))

    def test_malformed(self):
        for value in NO_CURVES:
            malformed(self, weil_pairing, value, 2, (), ())
            malformed(self, weil_pairing, value, None, None, None)
        for value in NO_POINTS:
            malformed(self, weil_pairing, C, 5, value, P)
            malformed(self, weil_pairing, C, 5, P, value)
        for value in slow.ODD_VALUES + (-5, 0, 1, 4, 6, 10, 25, 10 ** 10 + 19, 10 ** 40, 10 ** 30 + 57):
            malformed(self, weil_pairing, C, value, P, P)
            malformed(self, weil_pairing, C, value, (), ())
        for q in (2, 3, 7, 9999999967):
            malformed(self, weil_pairing, C, q, P, ())
            malformed(self, weil_pairing, C, q, (), P)


if __name__ == "__main__":
    unittest.main()
