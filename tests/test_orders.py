"""Points 8.3 to 8.5 and 8.7: numbers of points, traces and orders."""

import random
import unittest

from classledger.curves import point_multiple, points_at, twist_of
from classledger.orders import curve_trace, point_count, point_order
from tests import slow
from tests.test_curves import C, GREAT, GREAT_POINT, NO_CURVES, NO_POINTS, P
from tests.test_forms import malformed

# Primes on both sides of the bound for symbols, and great ones.
BESIDE = (9967, 9973, 10007, 10009, 10037, 10039)
GREAT_PRIMES = (10 ** 6 + 3, 10 ** 7 + 19, 2 ** 31 - 1, 4294967291, 9999999929, 9999999967)


def by_squares(curve):
    """Return the number of points, by a table of all squares."""
    p, a, b = curve
    squares = {y * y % p for y in range(1, p // 2 + 1)}
    sides = [(x ** 3 + a * x + b) % p for x in range(p)]
    return 1 + sum(1 if s == 0 else 2 * (s in squares) for s in sides)


class Numbers(unittest.TestCase):
    def test_small(self):
        for p in (5, 7, 11, 13, 17, 19, 23):
            for curve in slow.curves(p):
                many = by_squares(curve)
                self.assertEqual(point_count(curve), many)
                self.assertEqual(curve_trace(curve), p + 1 - many)
                self.assertLess(curve_trace(curve) ** 2, 4 * p)
                if p < 12:
                    self.assertEqual(len(slow.points(curve)), many)

    def test_twists(self):
        for p in (5, 7, 11, 13, 101, 1009) + BESIDE + GREAT_PRIMES:
            for a, b in ((1, 1), (0, 2), (3, 0), (2, 3)):
                if (4 * a ** 3 + 27 * b * b) % p:
                    curve = (p, a, b)
                    self.assertEqual(point_count(curve) + point_count(twist_of(curve)), 2 * p + 2)
                    self.assertEqual(curve_trace(curve), -curve_trace(twist_of(curve)))

    def test_beside_the_bound(self):
        chance = random.Random(1)
        for p in BESIDE:
            for a, b in [(0, 1), (0, 5), (1, 0), (3, 0), (p - 1, 0), (0, p - 1)] + [
                    (chance.randrange(p), chance.randrange(1, p)) for _ in range(10)]:
                curve = (p, a, b)
                if (4 * a ** 3 + 27 * b ** 2) % p:
                    self.assertEqual(point_count(curve), by_squares(curve), curve)

    def test_more_than_the_bound(self):
        for p in (20011, 49999, 100003):
            for a, b in ((0, 1), (1, 0), (2, 3), (p - 3, 1)):
                self.assertEqual(point_count((p, a, b)), by_squares((p, a, b)))

    def test_great(self):
        for p in GREAT_PRIMES:
            for a, b in ((1, 1), (0, 1), (0, 7), (1, 0), (5, 0), (p - 1, 0), (p - 2, 5), (12345, 67891)):
                self.check_number((p, a, b))

    def check_number(self, curve):
        number, t = point_count(curve), curve_trace(curve)
        self.assertEqual(number, curve[0] + 1 - t)
        self.assertLess(t * t, 4 * curve[0])
        twist = twist_of(curve)
        for x in range(20):
            for Q in points_at(curve, x):
                self.assertEqual(point_multiple(curve, number, Q), ())
            for Q in points_at(twist, x):
                self.assertEqual(point_multiple(twist, 2 * curve[0] + 2 - number, Q), ())

    def test_told_numbers(self):
        # b = 0 and p 3 modulo 4, a = 0 and p 2 modulo 3: the trace is 0.
        for p in (10007, 2 ** 31 - 1, 9999999967):
            self.assertEqual(p % 4, 3)
            self.assertEqual((curve_trace((p, 1, 0)), curve_trace((p, p - 5, 0))), (0, 0))
        for p in (10037, 4294967291, 9999999929):
            self.assertEqual(p % 3, 2)
            self.assertEqual((curve_trace((p, 0, 1)), curve_trace((p, 0, 3))), (0, 0))
        # p = x^2 + 4 y^2 with p = 10^4 + 9 = 100^2 + 3^2.
        self.assertIn(curve_trace((10009, p % 10009, 0)), (6, -6, 200, -200))

    def test_malformed(self):
        for value in NO_CURVES:
            malformed(self, point_count, value)
            malformed(self, curve_trace, value)


class Orders(unittest.TestCase):
    def test_small(self):
        for p in (5, 7, 11, 13):
            for curve in slow.curves(p):
                for Q in slow.points(curve):
                    self.assertEqual(point_order(curve, Q), slow.order(curve, Q))
        for curve in ((31, 0, 3), (31, 2, 0), (37, 1, 1), (61, 0, 8)):
            for Q in slow.points(curve):
                self.assertEqual(point_order(curve, Q), slow.order(curve, Q))
                self.assertEqual(point_count(curve) % point_order(curve, Q), 0)

    def test_great(self):
        for curve, Q in ((GREAT, GREAT_POINT), ((10007, 3, 5), points_at((10007, 3, 5), 1)[0]),
                         ((9999999929, 3, 0), points_at((9999999929, 3, 0), 3)[0])):
            k = point_order(curve, Q)
            self.check_order(curve, Q, k)
            for q, _ in slow.factors(k):
                self.check_order(curve, point_multiple(curve, q, Q), k // q)
                self.check_order(curve, point_multiple(curve, k // q, Q), q)

    def check_order(self, curve, Q, k):
        self.assertEqual(point_order(curve, Q), k)
        self.assertEqual(point_multiple(curve, k, Q), ())
        for q, _ in slow.factors(k):
            self.assertNotEqual(point_multiple(curve, k // q, Q), ())

    def test_edges(self):
        self.assertEqual(point_order(C, ()), 1)
        self.assertEqual(point_order(GREAT, ()), 1)
        self.assertEqual(point_order((5, 1, 0), (0, 0)), 2)
        self.assertEqual(point_order((9999999967, 1, 0), (0, 0)), 2)

    def test_malformed(self):
        for value in NO_CURVES:
            malformed(self, point_order, value, ())
            malformed(self, point_order, value, P)
            malformed(self, point_order, value, None)
        for value in NO_POINTS:
            malformed(self, point_order, C, value)


if __name__ == "__main__":
    unittest.main()
