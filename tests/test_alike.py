"""Points 9.1 to 9.4: curves that are alike, turns, invariants and told curves."""

import itertools
import unittest

from classledger.alike import alike_change, curve_invariant, curve_of, curve_turns, told_curve
from classledger.curves import is_curve
from classledger.orders import curve_trace
from tests import slow
from tests.test_curves import C, GREAT, NO_CURVES
from tests.test_forms import malformed
from tests.test_primes import refused

PRIMES = (5, 7, 11, 13, 17, 19)
NO_PRIMES = slow.ODD_VALUES + (-7, 0, 1, 2, 3, 4, 6, 9, 25, 10 ** 10 + 19, 10 ** 40, 10 ** 30 + 57, (7,), "7", C)


def changed(curve, u):
    """Return the curve that u makes of a curve."""
    p, a, b = curve
    return (p, u ** 4 * a % p, u ** 6 * b % p)


def class_of(curve):
    """Return the set of all curves that are alike to a curve."""
    return {changed(curve, u) for u in range(1, curve[0])}


class Alike(unittest.TestCase):
    def test_turns(self):
        for p in PRIMES:
            for curve in slow.curves(p):
                told = sum(changed(curve, u) == curve for u in range(1, p))
                self.assertEqual(curve_turns(curve), told)
                self.assertEqual(len(class_of(curve)) * told, p - 1)
        self.assertEqual([curve_turns((9999999967, 0, 1)), curve_turns((9999999943, 0, 1))], [6, 6])
        self.assertEqual([curve_turns((9999999929, 0, 1)), curve_turns((9999999929, 1, 0))], [2, 4])
        self.assertEqual([curve_turns((9999999967, 1, 0)), curve_turns(GREAT)], [2, 2])

    def test_told_curves(self):
        for p in PRIMES:
            for curve in slow.curves(p):
                self.assertEqual(told_curve(curve), min(class_of(curve)))

    def test_changes(self):
        for p in (5, 7, 11, 13):
            for one, two in itertools.product(slow.curves(p), repeat=2):
                told = [u for u in range(1, p) if changed(one, u) == two]
                self.assertEqual(alike_change(one, two), told[0] if told else None)

    def test_great_changes(self):
        p = 9973
        for curve in ((p, 3, 5), (p, 0, 5), (p, 3, 0)):
            for u in (1, 77, 5000):
                found = alike_change(curve, changed(curve, u))
                self.assertLessEqual(found, u)
                self.assertEqual(changed(curve, found), changed(curve, u))
                self.assertEqual(told_curve(changed(curve, u)), told_curve(curve))
            self.assertEqual(told_curve(curve), min(class_of(curve)))
        self.assertIsNone(alike_change((p, 3, 0), (p, 0, 3)))

    def test_as_the_point_tells(self):
        for p in PRIMES:
            for one in slow.curves(p)[::7]:
                for two in slow.curves(p):
                    self.assertEqual(alike_change(one, two) is None, self.bars(one, two), (one, two))

    def bars(self, one, two):
        """Tell whether two curves are not alike, by the cases of point 9.3."""
        (p, a, b), (_, c, d) = one, two
        if (a == 0) != (c == 0) or (b == 0) != (d == 0):
            return True
        if 0 not in (a, b, c, d):
            if (a ** 3 * d ** 2 - c ** 3 * b ** 2) % p:
                return True
            g, r = 2, a * d * pow(b * c, -1, p)
        elif b == d == 0:
            g, r = slow.gcd(4, p - 1), c * pow(a, -1, p)
        else:
            g, r = slow.gcd(6, p - 1), d * pow(b, -1, p)
        return pow(r, (p - 1) // g, p) != 1

    def test_numbers_of_classes(self):
        for p in PRIMES + (23, 29):
            told = {told_curve(curve) for curve in slow.curves(p)}
            self.assertEqual(len(told), 2 * p + {1: 6, 5: 2, 7: 4, 11: 0}[p % 12])
            # The sum of 1 / w is p.
            self.assertEqual(sum(12 // curve_turns(curve) for curve in told), 12 * p)

    def test_errors(self):
        for value in NO_CURVES:
            for function in (curve_turns, curve_invariant, told_curve):
                malformed(self, function, value)
            malformed(self, alike_change, value, C)
            malformed(self, alike_change, C, value)
            malformed(self, alike_change, value, value)
        malformed(self, alike_change, C, (5, 1, 1))
        malformed(self, alike_change, (10007, 1, 1), C)
        malformed(self, alike_change, C, GREAT)
        for curve in ((10007, 1, 1), GREAT):
            refused(self, "large", told_curve, curve)
            refused(self, "large", alike_change, curve, curve)


class Invariants(unittest.TestCase):
    def test_invariants(self):
        for p in PRIMES:
            for curve in slow.curves(p):
                _, a, b = curve
                j = curve_invariant(curve)
                self.assertEqual(j, 1728 * 4 * a ** 3 * pow(4 * a ** 3 + 27 * b ** 2, -1, p) % p)
                self.assertEqual({curve_invariant(other) for other in class_of(curve)}, {j})
                self.assertEqual((j == 0, j == 1728 % p), (a == 0, b == 0))

    def test_told(self):
        for p in PRIMES + (101, 9973):
            self.assertEqual(curve_of(p, 0), (p, 0, 1))
            self.assertEqual(curve_of(p, 1728), (p, 1, 0))
            for j in list(range(-30, 60)) + [1728 - p, 10 ** 40, -3375]:
                curve = curve_of(p, j)
                self.assertIs(is_curve(curve), True)
                self.assertEqual(curve_invariant(curve), j % p)
                if j % p not in (0, 1728 % p):
                    k = j * pow(1728 - j, -1, p)
                    self.assertEqual(curve, (p, 3 * k % p, 2 * k % p))

    def test_great(self):
        p = 9999999967
        for j in (0, 1728, 1, -1, 287496, 10 ** 30):
            self.assertEqual(curve_invariant(curve_of(p, j)), j % p)
        # The invariants of chapter 9 belong to curves whose traces chapter 9 tells.
        self.assertIn(abs(curve_trace(curve_of(10009, 1728))), (6, 200))

    def test_malformed(self):
        for value in NO_PRIMES:
            malformed(self, curve_of, value, 5)
            malformed(self, curve_of, value, None)
        for value in slow.ODD_VALUES:
            malformed(self, curve_of, 7, value)


if __name__ == "__main__":
    unittest.main()
