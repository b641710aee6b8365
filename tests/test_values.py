"""Point 5.7."""

import itertools
import math
import unittest

from classledger.values import told_values, value_roots
from tests import slow
from tests.test_forms import NO_DISCRIMINANTS, NO_FORMS, malformed
from tests.test_primes import refused


def root_of(f, x, y):
    """Return the root that a pair without common divisor belongs to."""
    # A matrix with this first column, by trying its second one.
    for q, s in itertools.product(range(-abs(x) - 1, abs(x) + 2), range(-abs(y) - 1, abs(y) + 2)):
        if x * s - q * y == 1:
            n, b, _ = slow.move(f, ((x, q), (y, s)))
            return b % (2 * abs(n))
    return None


def roots(D, n):
    """Return all roots of n by trying."""
    return [b for b in range(2 * abs(n)) if (b * b - D) % (4 * n) == 0]


def told_by_walking(f, most, bound):
    """Return, for each value to a bound, the roots of the pairs whose items are small."""
    told = {}
    for x, y in itertools.product(range(-most, most + 1), repeat=2):
        n = slow.at(f, x, y)
        if math.gcd(x, y) == 1 and abs(n) <= bound:
            told.setdefault(n, set()).add(root_of(f, x, y))
    return told


class Roots(unittest.TestCase):
    def test_against_trying(self):
        for D in (-3, -4, -23, -24, -27, -48, 5, 8, 12, 40, 45, 61, 136, 145):
            for n in range(-60, 61):
                if n > 0 or (n and D > 0):
                    self.assertEqual(value_roots(D, n), tuple(roots(D, n)), (D, n))

    def test_bounds(self):
        for n in (10000, 9973, 9240):
            self.assertEqual(value_roots(-23, n), tuple(roots(-23, n)))
            self.assertEqual(value_roots(40, -n), tuple(roots(40, -n)))
        self.assertEqual(value_roots(4 * 10 ** 8 + 4 * 10 ** 4, 10 ** 4), tuple(roots(0, 10 ** 4)))
        big = 10 ** 130 + 1
        self.assertEqual(value_roots(4 * big + 1, 7), tuple(roots((4 * big + 1) % 28, 7)))

    def test_errors(self):
        for value in NO_DISCRIMINANTS:
            malformed(self, value_roots, value, 5)
            malformed(self, value_roots, value, 10 ** 5)
            malformed(self, value_roots, value, None)
        for value in slow.ODD_VALUES + (0,):
            malformed(self, value_roots, 40, value)
            malformed(self, value_roots, -23, value)
        for n in (-1, -5, -10001):
            malformed(self, value_roots, -23, n)
        for n in (10001, 10 ** 60):
            refused(self, "large", value_roots, -23, n)
            refused(self, "large", value_roots, 40, n)
            refused(self, "large", value_roots, 40, -n)
        self.assertEqual(value_roots(10 ** 6 + 1, 1), (1,))


class Values(unittest.TestCase):
    def check_triples(self, f, n):
        """Check the triples one by one, and return the told roots."""
        triples = told_values(f, n)
        self.assertIsInstance(triples, tuple)
        told = []
        for b, x, y in triples:
            self.assertEqual(math.gcd(x, y), 1)
            self.assertEqual(slow.at(f, x, y), n)
            self.assertEqual(root_of(f, x, y), b)
            told.append(b)
        self.assertEqual(told, sorted(set(told)))
        return told

    def test_definite(self):
        for f in ((2, 1, 3), (1, 1, 6), (1, 0, 1), (1, 1, 1), (3, 0, 5), (2, 2, 2), (10, 8, 3), (3, 3, 5), (4, 2, 6)):
            # No pair with greater items has a value to 30.
            walked = told_by_walking(f, 13, 30)
            for n in range(1, 31):
                self.assertEqual(self.check_triples(f, n), sorted(walked.get(n, ())), (f, n))

    def test_indefinite(self):
        for f in ((1, 0, -10), (3, 4, -2), (-3, 2, 3), (1, 1, -1), (1, 0, -3), (-1, 0, 3), (2, 4, -4), (1, 1, -36)):
            D = slow.disc(f)
            g = f
            while not slow.on_cycle(g):
                g, _ = slow.step(g)
            cycle = slow.cycle(g)
            walked = told_by_walking(f, 12, 25)
            for n in list(range(-25, 0)) + list(range(1, 26)):
                told = []
                for b in roots(D, n):
                    h = (n, b, (b * b - D) // (4 * n))
                    while not slow.on_cycle(h):
                        h, _ = slow.step(h)
                    if h in cycle:
                        told.append(b)
                self.assertEqual(self.check_triples(f, n), told, (f, n))
                self.assertLessEqual(walked.get(n, set()), set(told))

    def test_great(self):
        # No pair with greater items than 73 has a value to 10000.
        for n in (9998, 9672):
            told = {root_of((2, 1, 3), x, y) for x, y in itertools.product(range(-73, 74), repeat=2)
                    if slow.at((2, 1, 3), x, y) == n and math.gcd(x, y) == 1}
            self.assertTrue(told)
            self.assertEqual(self.check_triples((2, 1, 3), n), sorted(told))
        big = 10 ** 60 - 1
        self.assertEqual(self.check_triples((1, 0, big), 9), [])
        self.assertEqual(self.check_triples((big, 1, big), 5), [])
        self.assertEqual(self.check_triples(slow.move((9, 1, 10 ** 58), ((1, 1), (0, 1))), 9), [1])
        # The form (n, b, ..) has a last item of more than 60 digits here.
        self.assertEqual([b for b, _, _ in told_values((big, 1, 10000), 10000)], [20000 - 1])
        self.assertEqual(self.check_triples((10, -1, big), 10), [19])

    def test_errors(self):
        for value in NO_FORMS:
            malformed(self, told_values, value, 5)
            malformed(self, told_values, value, 10 ** 5)
            malformed(self, told_values, value, None)
        for value in slow.ODD_VALUES + (0,):
            malformed(self, told_values, (1, 0, -10), value)
            malformed(self, told_values, (2, 1, 3), value)
            malformed(self, told_values, (1, 1, -250000), value)
        for n in (-1, -5, -10001):
            malformed(self, told_values, (2, 1, 3), n)
        for n in (10001, 10 ** 60):
            refused(self, "large", told_values, (2, 1, 3), n)
            refused(self, "large", told_values, (1, 0, -10), -n)
        refused(self, "large", told_values, (1, 1, -250000), 1)
        refused(self, "large", told_values, (10 ** 59, 1, -10 ** 59), -1)
        self.assertEqual(told_values((1, 1, -249999), 1)[0][0], 1)


if __name__ == "__main__":
    unittest.main()
