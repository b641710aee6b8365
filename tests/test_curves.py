"""Points 8.1, 8.2 and 8.4: curves, points, sums and twists."""

import itertools
import random
import unittest

from classledger.curves import (
    all_points, is_curve, is_point, point_multiple, point_negative, point_sum, points_at, twist_of)
from tests import slow
from tests.test_forms import malformed
from tests.test_primes import refused

C = (7, 1, 1)
P = (0, 1)
GREAT = (9999999967, 5, 7)
GREAT_POINT = (9999999965, 5442191443)

NO_CURVES = slow.ODD_VALUES + (
    7, (7, 0, 0), (7, 1, 2), (5, 2, 2), (2, 1, 1), (3, 1, 1), (4, 1, 1), (9, 1, 1), (1, 0, 0), (0, 1, 1), (-7, 1, 1),
    (25, 1, 1), (7, 7, 1), (7, 1, 7), (7, -1, 1), (7, 1, -1), (7, 1), (7, 1, 1, 1), [7, 1, 1], (7, True, 1), (7, 1, True),
    (True, 1, 1), (7, 1, None), ("7", 1, 1), (10 ** 10 + 19, 1, 1), (10 ** 40, 1, 1), (10 ** 30 + 57, 1, 1),
    ((7, 1, 1),), (9999999968, 1, 1))
NO_POINTS = tuple(value for value in slow.ODD_VALUES if value != ()) + (
    0, (0,), (0, 0), (1, 1), (0, 1, 0), (7, 1), (0, 8), (0, -1), (-7, 1), (0, True), (False, 1), [0, 1], [[0, 1]],
    ((0, 1),), (0, None), ("0", 1), [()], ((),), 10 ** 40)


class Curves(unittest.TestCase):
    def test_small_curves(self):
        for p in (5, 7, 11, 13):
            told = set(slow.curves(p))
            self.assertEqual(len(told), p * p - p)
            for a, b in itertools.product(range(p), repeat=2):
                self.assertIs(is_curve((p, a, b)), (p, a, b) in told)

    def test_primes(self):
        for p in range(-3, 200):
            self.assertIs(is_curve((p, 1, 0)), slow.is_prime(p) and p > 3)
        self.assertIs(is_curve((9999999967, 1, 0)), True)
        self.assertIs(is_curve((10 ** 10 - 33, 10 ** 10 - 34, 10 ** 10 - 34)), True)
        self.assertIs(is_curve((10 ** 10 + 19, 1, 0)), False)

    def test_no_curves(self):
        for value in NO_CURVES:
            self.assertIs(is_curve(value), False, value)
            self.assertIs(is_point(value, ()), False, value)
            self.assertIs(is_point(value, P), False, value)
            self.assertIs(is_point(value, None), False, value)

    def test_points(self):
        for curve in ((5, 1, 0), (7, 1, 1), (7, 0, 1), (11, 3, 0), (13, 0, 2), (13, 5, 6)):
            told = slow.points(curve)
            self.assertEqual(all_points(curve), told)
            for x, y in itertools.product(range(-1, curve[0] + 1), repeat=2):
                self.assertIs(is_point(curve, (x, y)), (x, y) in told)
            self.assertIs(is_point(curve, ()), True)
        for value in NO_POINTS:
            self.assertIs(is_point(C, value), False, value)
        self.assertIs(is_point(GREAT, GREAT_POINT), True)
        self.assertIs(is_point(GREAT, (GREAT_POINT[0], GREAT_POINT[1] + 1)), False)

    def test_points_at(self):
        for curve in ((5, 1, 0), (7, 1, 1), (7, 0, 1), (11, 3, 0), (13, 5, 6), (101, 2, 3)):
            p = curve[0]
            told = slow.points(curve)[1:]
            for x in range(-p, 2 * p):
                self.assertEqual(points_at(curve, x), tuple(Q for Q in told if Q[0] == x % p))
            self.assertEqual(points_at(curve, 10 ** 40), tuple(Q for Q in told if Q[0] == 10 ** 40 % p))
        self.assertEqual(points_at((5, 1, 0), 2), ((2, 0),))
        self.assertEqual(points_at(GREAT, -2), (GREAT_POINT[:1] + (GREAT[0] - GREAT_POINT[1],), GREAT_POINT))
        for value in slow.ODD_VALUES:
            malformed(self, points_at, C, value)
        for value in NO_CURVES:
            malformed(self, points_at, value, 0)

    def test_all_points(self):
        for curve in ((9973, 1, 0), (9967, 0, 5), (997, 2, 3)):
            told = all_points(curve)
            self.assertEqual(told[0], ())
            self.assertEqual(list(told[1:]), sorted(set(told[1:])))
            p, a, b = curve
            squares = {y * y % p for y in range(p)}
            self.assertTrue(all((y * y - x ** 3 - a * x - b) % p == 0 for x, y in told[1:]))
            sides = [(x ** 3 + a * x + b) % p for x in range(p)]
            self.assertEqual(len(told), 1 + sum((s in squares) * (1 if s == 0 else 2) for s in sides))
        for p in (10007, 9999999967):
            refused(self, "large", all_points, (p, 1, 0))
        for value in NO_CURVES:
            malformed(self, all_points, value)


class Sums(unittest.TestCase):
    def test_sums(self):
        for curve in ((5, 1, 0), (5, 0, 1), (7, 1, 1), (7, 0, 1), (7, 2, 0), (11, 1, 6), (13, 0, 2)):
            told = slow.points(curve)
            for one in told:
                self.assertEqual(point_negative(curve, one), slow.negated(curve, one))
                for two in told:
                    found = point_sum(curve, one, two)
                    self.assertEqual(found, slow.added(curve, one, two))
                    self.assertIn(found, told)
                    self.assertEqual(found, point_sum(curve, two, one))

    def test_group(self):
        for curve in ((7, 1, 1), (5, 1, 0), (11, 0, 3)):
            told = slow.points(curve)
            for one, two, three in itertools.product(told, repeat=3):
                self.assertEqual(point_sum(curve, point_sum(curve, one, two), three),
                                 point_sum(curve, one, point_sum(curve, two, three)))
            for one in told:
                self.assertEqual(point_sum(curve, one, point_negative(curve, one)), ())

    def test_points_of_order_two(self):
        self.assertEqual(point_negative((5, 1, 0), (2, 0)), (2, 0))
        self.assertEqual(point_sum((5, 1, 0), (2, 0), (2, 0)), ())
        self.assertEqual(point_sum((5, 1, 0), (2, 0), (3, 0)), (0, 0))
        self.assertEqual([point_multiple((5, 1, 0), k, (2, 0)) for k in (-3, -2, 2, 3)], [(2, 0), (), (), (2, 0)])

    def test_multiples(self):
        for curve in ((7, 1, 1), (5, 1, 0), (13, 0, 2), (31, 3, 0)):
            for one in slow.points(curve):
                back = slow.negated(curve, one)
                for k in range(12):
                    self.assertEqual(point_multiple(curve, k, one), slow.multiplied(curve, k, one))
                    self.assertEqual(point_multiple(curve, -k, one), slow.multiplied(curve, k, back))

    def test_great_multiples(self):
        self.assertEqual(point_multiple(C, 10 ** 60 + 3, P), slow.multiplied(C, (10 ** 60 + 3) % 5, P))
        self.assertEqual(point_multiple(C, -10 ** 60, P), ())
        self.assertEqual(point_multiple(GREAT, 10 ** 30, ()), ())
        chance = random.Random(1)
        for _ in range(10):
            k, l = chance.randint(-10 ** 12, 10 ** 12), chance.randint(-10 ** 12, 10 ** 12)
            one, two = point_multiple(GREAT, k, GREAT_POINT), point_multiple(GREAT, l, GREAT_POINT)
            self.assertIs(is_point(GREAT, one), True)
            self.assertEqual(point_sum(GREAT, one, two), point_multiple(GREAT, k + l, GREAT_POINT))
            self.assertEqual(point_sum(GREAT, one, two), slow.added(GREAT, one, two))

    def test_malformed(self):
        for value in NO_CURVES:
            malformed(self, point_negative, value, ())
            malformed(self, point_sum, value, (), ())
            malformed(self, point_multiple, value, 2, ())
            malformed(self, point_multiple, value, None, None)
        for value in NO_POINTS:
            malformed(self, point_negative, C, value)
            malformed(self, point_sum, C, value, P)
            malformed(self, point_sum, C, P, value)
            malformed(self, point_multiple, C, 2, value)
        for value in slow.ODD_VALUES:
            malformed(self, point_multiple, C, value, P)


class Twists(unittest.TestCase):
    def test_twists(self):
        for p in (5, 7, 11, 13, 17, 19, 23):
            d = slow.least_nonsquare(p)
            for curve in slow.curves(p):
                _, a, b = curve
                twist = twist_of(curve)
                self.assertEqual(twist, (p, a * d ** 2 % p, b * d ** 3 % p))
                self.assertIs(is_curve(twist), True)
                if p < 12:
                    self.assertEqual(len(slow.points(curve)) + len(slow.points(twist)), 2 * p + 2)

    def test_great(self):
        p = 9999999967
        d = next(d for d in range(2, 100) if pow(d, (p - 1) // 2, p) == p - 1)
        self.assertEqual(twist_of(GREAT), (p, 5 * d ** 2, 7 * d ** 3))
        # 2, 3, 5, 7, 11, 13, 17, 19 and 23 are squares modulo this prime.
        p = 3818929
        d = next(d for d in range(2, 100) if pow(d, (p - 1) // 2, p) == p - 1)
        self.assertGreater(d, 20)
        self.assertEqual(twist_of((p, 1, 1)), (p, d ** 2, d ** 3))

    def test_malformed(self):
        for value in NO_CURVES:
            malformed(self, twist_of, value)


if __name__ == "__main__":
    unittest.main()
