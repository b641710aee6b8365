"""Points 13.1 to 13.4: the trace formula, told by class numbers."""

import unittest

from classledger.hecke import characteristic, hecke_matrix, hecke_trace
from classledger.traces import (
    characteristic_by_classes, class_side, class_terms, dimension_by_classes, trace_by_classes, weight_number)
from tests import slow
from tests.test_forms import malformed
from tests.test_hecke import NO_INDEX_PRIMES
from tests.test_level import cusps
from tests.test_primes import refused

NO_WEIGHTS = slow.ODD_VALUES + (0, 1, 3, -2, 5, 99, 101, 102, 10 ** 30, (12,), "12")
NO_INDEXES = slow.ODD_VALUES + (0, -1, 20001, 10 ** 30, (2,), "2")
NO_INTEGERS = (None, True, False, "1", (), (1,), [1], slow.nested(60))


def least_sum(k, n):
    """Return the sum of min(c, n / c)^(k - 1)."""
    return sum(min(c, n // c) ** (k - 1) for c in slow.divisors(n))


def slow_terms(k, n):
    """Return the triples of point 13.2, with class numbers counted form by form."""
    most = slow.floor_root(4 * n)
    return tuple((t, slow.trace_number(k, t, n), slow.hurwitz(4 * n - t * t)) for t in range(-most, most + 1))


def slow_side(k, n):
    """Return C(k, n) by the words of point 13.2."""
    return sum(number * h for _, number, h in slow_terms(k, n)) + 12 * least_sum(k, n)


class Numbers(unittest.TestCase):
    def test_by_the_series(self):
        for t in (-7, -1, 0, 1, 2, 5, 1000):
            for n in (1, 2, 3, 9, 20000):
                self.assertEqual(weight_number(2, t, n), 1)
                self.assertEqual(weight_number(4, t, n), t * t - n)
                for k in range(2, 101, 2):
                    told = weight_number(k, t, n)
                    self.assertEqual(told, slow.trace_number(k, t, n))
                    self.assertEqual(told, weight_number(k, -t, n))

    def test_by_hand(self):
        # (x^11 - y^11) / (x - y) with x + y = 3 and x y = 2: the integers are 2 and 1.
        self.assertEqual(weight_number(12, 3, 2), 2 ** 11 - 1)
        self.assertEqual(weight_number(12, 2, 1), 11)
        self.assertEqual(weight_number(100, 10 ** 40, 1) % 10 ** 80, -1 % 10 ** 80)

    def test_errors(self):
        for value in NO_WEIGHTS:
            malformed(self, weight_number, value, 1, 1)
        for value in NO_INTEGERS:
            malformed(self, weight_number, 12, value, 1)
            malformed(self, weight_number, 2, value, 1)
        for value in NO_INDEXES:
            malformed(self, weight_number, 12, 1, value)


class Sides(unittest.TestCase):
    def test_terms(self):
        for k in (2, 4, 12, 26, 100):
            for n in list(range(1, 40)) + [64, 100, 101]:
                told = slow_terms(k, n)
                self.assertEqual(class_terms(k, n), told)
                self.assertEqual(class_side(k, n), slow_side(k, n))

    def test_weight_two(self):
        for n in list(range(1, 60)) + [144, 200, 997]:
            self.assertEqual(class_side(2, n), 24 * slow.divisor_powers(1, n))
            self.assertEqual(trace_by_classes(2, n), 0)

    def test_traces_of_the_matrices(self):
        for k in range(4, 101, 2):
            for n in (1, 2, 3, 4, 5, 6, 9, 16, 25, 36, 49):
                told = trace_by_classes(k, n)
                self.assertEqual(told, hecke_trace(k, n))
                self.assertEqual(24 * told, -class_side(k, n))
        for n in range(1, 60):
            self.assertEqual(trace_by_classes(12, n), slow.taus(60)[n])
            self.assertEqual(trace_by_classes(10, n), 0)

    def test_one_tells_the_dimension(self):
        self.assertEqual(dimension_by_classes(2), 0)
        for k in range(4, 101, 2):
            self.assertEqual(dimension_by_classes(k), cusps(k))
            self.assertEqual([h for _, _, h in class_terms(k, 1)], [-1, 4, 6, 4, -1])

    def test_bounds(self):
        self.assertEqual(trace_by_classes(2, 20000), 0)
        self.assertEqual(trace_by_classes(4, 20000), 0)
        self.assertEqual(class_side(2, 19999), 24 * slow.divisor_powers(1, 19999))
        self.assertEqual(len(class_terms(12, 20000)), 2 * 282 + 1)
        # 20000 = 2^5 5^4, and both powers are told by the rule of point 12.3.
        powers = {}
        for p, most in ((2, 5), (5, 4)):
            powers[p] = [1, slow.taus(5)[p]]
            while len(powers[p]) <= most:
                powers[p].append(powers[p][1] * powers[p][-1] - p ** 11 * powers[p][-2])
        self.assertEqual(trace_by_classes(12, 20000), powers[2][5] * powers[5][4])

    def test_errors(self):
        for function in (class_side, class_terms, trace_by_classes):
            for value in NO_WEIGHTS:
                malformed(self, function, value, 1)
                malformed(self, function, value, None)
            for value in NO_INDEXES:
                malformed(self, function, 12, value)
                malformed(self, function, 2, value)
        for value in NO_WEIGHTS:
            malformed(self, dimension_by_classes, value)


class Polynomials(unittest.TestCase):
    def test_of_the_matrix(self):
        for k in range(4, 101, 2):
            d = cusps(k)
            for p in (2, 3, 5, 7, 11):
                if p ** d <= 20000:
                    self.assertEqual(characteristic_by_classes(k, p), characteristic(hecke_matrix(k, p)))
        for k, p in ((12, 199), (24, 139), (30, 139), (36, 23), (48, 11)):
            self.assertEqual(characteristic_by_classes(k, p), characteristic(hecke_matrix(k, p)))

    def test_without_cusp_forms(self):
        for k in (2, 4, 6, 8, 10, 14):
            for p in (2, 3, 397):
                self.assertEqual(characteristic_by_classes(k, p), (1,))

    def test_bounds(self):
        self.assertEqual(characteristic_by_classes(12, 397), (1, -trace_by_classes(12, 397)))
        # Squares and powers just within and just beyond 20000.
        for k, within, beyond in ((24, 139, 149), (36, 23, 29), (48, 11, 13), (60, 7, 11), (72, 5, 7), (84, 3, 5),
                                  (96, 3, 5), (98, 3, 5)):
            d = cusps(k)
            self.assertTrue(within ** d <= 20000 < beyond ** d)
            self.assertEqual(len(characteristic_by_classes(k, within)), d + 1)
            refused(self, "large", characteristic_by_classes, k, beyond)
            refused(self, "large", characteristic_by_classes, k, 397)

    def test_errors(self):
        for value in NO_WEIGHTS:
            malformed(self, characteristic_by_classes, value, 2)
        for value in NO_INDEX_PRIMES:
            for k in (2, 12, 100):
                malformed(self, characteristic_by_classes, k, value)


if __name__ == "__main__":
    unittest.main()
