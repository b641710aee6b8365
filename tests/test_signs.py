"""Points 7.1, 7.2, 7.3 and 7.7."""

import unittest

from classledger.signs import (
    fundamental, is_fundamental, number_by_conductor, number_by_signs, pairs_by_signs, sign_sum)
from tests import slow
from tests.test_forms import NO_DISCRIMINANTS, malformed
from tests.test_primes import refused

BELOW = [D for D in range(-400, 0) if slow.is_discriminant(D)]
ABOVE = [D for D in range(1, 260) if slow.is_discriminant(D)]
FUNDAMENTAL_BELOW = [D for D in BELOW if slow.fundamental(D)[1] == 1]


def primitive(D):
    """Return the number of the primitive reduced forms of D below 0."""
    return len([f for f in slow.reduced(D) if slow.content(f) == 1])


def by_squares(D):
    """Tell a fundamental discriminant as point 7.1 does, by trying squares."""
    m = D if D % 4 == 1 else D // 4
    free = all(m % (k * k) for k in range(2, slow.floor_root(abs(m)) + 1))
    return free and (D % 4 == 1 or m % 4 in (2, 3))


class Fundamental(unittest.TestCase):
    def test_against_trying(self):
        for D in BELOW + ABOVE + [-4 * 49 * 3, 45 * 16, -3 * 3 ** 4, 8 * 25, -8 * 9 * 25, 12 * 36, -1200, 2000]:
            self.assertEqual(fundamental(D), slow.fundamental(D), D)
            self.assertIs(is_fundamental(D), slow.fundamental(D)[1] == 1)
            self.assertIs(is_fundamental(D), by_squares(D))

    def test_great(self):
        p = 999983
        for D0, f in ((-3, 500000), (5, 447213), (-4, 499979), (8, 353553), (-23, 200000), (-999999999959, 1),
                      (12, 2 ** 17), (-8, 2 ** 18), (-p, 999), (4 * p, 499)):
            self.assertTrue(by_squares(D0))
            D = D0 * f * f
            self.assertEqual(fundamental(D), (D0, f))
            self.assertIs(is_fundamental(D), f == 1)

    def test_bounds(self):
        self.assertEqual(fundamental(-10 ** 12), (-4, 500000))
        for D in (-10 ** 12 - 3, -10 ** 12 - 4, 10 ** 12 + 1, 10 ** 12 + 4, 10 ** 70 + 1):
            for function in (fundamental, is_fundamental):
                refused(self, "large", function, D)
        malformed(self, fundamental, 10 ** 12)
        malformed(self, is_fundamental, 10 ** 14)

    def test_malformed(self):
        for value in NO_DISCRIMINANTS:
            malformed(self, fundamental, value)
            malformed(self, is_fundamental, value)


class Sums(unittest.TestCase):
    def test_against_the_forms(self):
        for D in FUNDAMENTAL_BELOW:
            total = sum(n * slow.sign(D, n) for n in range(1, -D))
            self.assertEqual(sign_sum(D), total)
            self.assertEqual(number_by_signs(D), primitive(D))

    def test_told(self):
        self.assertEqual((sign_sum(-3), number_by_signs(-3)), (-1, 1))
        self.assertEqual((sign_sum(-4), number_by_signs(-4)), (-2, 1))
        self.assertEqual((sign_sum(-8), number_by_signs(-8)), (-8, 1))

    def test_bounds(self):
        self.assertEqual(number_by_signs(-99995), primitive(-99995))
        for function in (sign_sum, number_by_signs):
            for D in (-100003, -100004, -100016, -10 ** 13, -10 ** 70):
                refused(self, "large", function, D)
            for D in (-12, -27, -28, -100000, -16):
                refused(self, "fundamental", function, D)
            for value in NO_DISCRIMINANTS + (5, 8, 12, 10 ** 13 + 1, -100001, -100002):
                malformed(self, function, value)


class Conductors(unittest.TestCase):
    def test_below(self):
        for D in BELOW + [-3 * f * f for f in range(1, 60)] + [-4 * f * f for f in range(1, 60)]:
            self.assertEqual(number_by_conductor(D), primitive(D), D)

    def test_above(self):
        more = [5 * f * f for f in range(8, 20)] + [8 * f * f for f in range(6, 13)] + [12 * 49, 12 * 25, 229 * 4, 145 * 4]
        for D in ABOVE + more:
            self.assertEqual(number_by_conductor(D), len(slow.cycles(D)), D)

    def test_great(self):
        for D in (-3 * 577 ** 2, -10 ** 6, -4 * 499 ** 2, -23 * 208 ** 2):
            self.assertEqual(number_by_conductor(D), primitive(D))
        # The units of 5 have the second items 1, 3, 8, ..; f = 377 divides the one of the power 7.
        self.assertEqual(number_by_conductor(5 * 377 ** 2), 377 * 14 * 28 // (13 * 29) // 7)

    def test_errors(self):
        for D in (-1000003, -1000004, 1000001, 1000004, 10 ** 70 + 1, -10 ** 70):
            refused(self, "large", number_by_conductor, D)
        for value in NO_DISCRIMINANTS + (10 ** 6, 1000002, -1000001):
            malformed(self, number_by_conductor, value)


class Pairs(unittest.TestCase):
    def test_against_walking(self):
        for D in (-3, -4, -7, -8, -15, -20, -23, -24, -84, -163):
            counts = {}
            for f in slow.reduced(D):
                for x in range(-14, 15):
                    for y in range(-14, 15):
                        n = slow.at(f, x, y)
                        counts[n] = counts.get(n, 0) + 1
            most = min(-D * 14 ** 2 // (4 * max(max(f) for f in slow.reduced(D))), 60)
            for n in range(1, most):
                self.assertEqual(pairs_by_signs(D, n), counts.get(n, 0), (D, n))
            self.assertGreater(most, 25)

    def test_great(self):
        n = 10 ** 6
        self.assertEqual(pairs_by_signs(-4, n), 4 * sum(slow.sign(-4, d) for d in slow.divisors(n)))
        told = sum(slow.sign(-99995, d) for d in slow.divisors(720720))
        self.assertEqual(pairs_by_signs(-99995, 720720), 2 * told)

    def test_errors(self):
        for value in slow.ODD_VALUES + (0, -1, -10 ** 7):
            malformed(self, pairs_by_signs, -23, value)
            malformed(self, pairs_by_signs, -12, value)
            malformed(self, pairs_by_signs, -100003, value)
        for value in NO_DISCRIMINANTS + (5, 8, 12):
            malformed(self, pairs_by_signs, value, 6)
            malformed(self, pairs_by_signs, value, 10 ** 6 + 1)
            malformed(self, pairs_by_signs, value, None)
        refused(self, "large", pairs_by_signs, -23, 10 ** 6 + 1)
        refused(self, "large", pairs_by_signs, -12, 10 ** 6 + 1)
        refused(self, "large", pairs_by_signs, -100016, 6)
        refused(self, "large", pairs_by_signs, -10 ** 70, 6)
        refused(self, "fundamental", pairs_by_signs, -12, 6)
        refused(self, "fundamental", pairs_by_signs, -100000, 10 ** 6)


if __name__ == "__main__":
    unittest.main()
