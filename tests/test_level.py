"""Points 11.2 to 11.7: Eisenstein series, Delta, generators, echelon bases, coordinates."""

import itertools
import random
import unittest

from classledger.level import (
    coordinates, delta, dimension, echelon, eisenstein, first_unlike, form_of, generators)
from classledger.series import euler_product, multiple, plus, power, shifted, times
from tests import slow
from tests.test_forms import malformed
from tests.test_primes import refused
from tests.test_series import NO_LENGTHS, NO_SERIES, product

WEIGHTS = range(4, 101, 2)
CONSTANTS = {4: 240, 6: -504, 8: 480, 10: -264, 14: -24}
NO_WEIGHTS = slow.ODD_VALUES + (0, 2, 3, 5, 13, 99, 101, 102, -4, 10 ** 30, (12,), "12", [12])


def cusps(k):
    """Return d."""
    return k // 12 - (k % 12 == 2)


def combined(row, series, size):
    """Return a sum of multiples of series."""
    total = (0,) * size
    for c, g in zip(row, series):
        total = plus(total, multiple(g, c))
    return total


class Eisenstein(unittest.TestCase):
    def test_items(self):
        for k, c in CONSTANTS.items():
            told = (1,) + tuple(c * sum(d ** (k - 1) for d in slow.divisors(n)) for n in range(1, 400))
            for size in (1, 2, 40, 400):
                self.assertEqual(eisenstein(k, size), told[:size])

    def test_products(self):
        four, six = eisenstein(4, 100), eisenstein(6, 100)
        self.assertEqual(times(four, four), eisenstein(8, 100))
        self.assertEqual(times(four, six), eisenstein(10, 100))
        self.assertEqual(times(eisenstein(8, 100), six), eisenstein(14, 100))

    def test_errors(self):
        for value in NO_WEIGHTS:
            malformed(self, eisenstein, value, 5)
            malformed(self, eisenstein, value, None)
        for value in NO_LENGTHS:
            for k in (4, 12, 100):
                malformed(self, eisenstein, k, value)
            malformed(self, delta, value)
        for k in WEIGHTS:
            if k not in CONSTANTS:
                refused(self, "weight", eisenstein, k, 5)


class Delta(unittest.TestCase):
    def test_both_ways(self):
        for size in (1, 2, 3, 4, 5, 50, 400):
            told = [a - b for a, b in zip(power(eisenstein(4, size), 3), power(eisenstein(6, size), 2))]
            self.assertEqual([1728 * item for item in delta(size)], told)
            self.assertEqual(delta(size), shifted(euler_product(size, 24), 1))
        self.assertEqual(delta(4), (0, 1, -24, 252))

    def test_items(self):
        told = delta(400)
        for m, n in itertools.product(range(1, 20), repeat=2):
            if slow.gcd(m, n) == 1:
                self.assertEqual(told[m] * told[n], told[m * n])
        for n in range(1, 400):
            self.assertEqual((told[n] - sum(d ** 11 for d in slow.divisors(n))) % 691, 0)


class Bases(unittest.TestCase):
    def test_dimensions(self):
        for k in WEIGHTS:
            self.assertEqual(dimension(k), cusps(k) + 1)
            # As many as the pairs (a, b) with 4 a + 6 b = k.
            self.assertEqual(dimension(k), sum((k - 6 * b) % 4 == 0 for b in range(k // 6 + 1)))
        self.assertEqual([dimension(k) for k in (4, 12, 14, 24, 26, 100)], [1, 2, 1, 3, 2, 9])

    def check_generators(self, k, size):
        told = generators(k, size)
        self.assertEqual(len(told), cusps(k) + 1)
        four, six, step = eisenstein(4, size), eisenstein(6, size), delta(size)
        for j, g in enumerate(told):
            b = 1 if (k - 12 * j) % 4 == 2 else 0
            a = (k - 12 * j - 6 * b) // 4
            self.assertEqual(4 * a + 6 * b, k - 12 * j)
            self.assertEqual(g, times(times(power(step, j), power(four, a)), power(six, b)))
            self.assertEqual(g[:j + 1], ((0,) * j + (1,))[:size])

    def test_generators(self):
        for k in WEIGHTS:
            self.check_generators(k, 14)
            self.check_generators(k, 1)
        for k in (4, 14, 24, 26, 98, 100):
            self.check_generators(k, 5)
            self.check_generators(k, 400)

    def test_echelon(self):
        for k in WEIGHTS:
            d = cusps(k)
            for size in (1, 3, d + 1, d + 6):
                told = echelon(k, size)
                self.assertEqual(len(told), d + 1)
                for j, f in enumerate(told):
                    self.assertEqual(f[:d + 1], tuple(int(at == j) for at in range(d + 1))[:size])
            for f in echelon(k, d + 6):
                self.assertIsNone(first_unlike(f, k))

    def test_great_echelon(self):
        for k in (12, 50, 100):
            d = cusps(k)
            told = echelon(k, 400)
            self.assertEqual([f[:6] for f in told], [f for f in echelon(k, 6)])
            row = tuple(range(3, d + 4))
            form = form_of(row, k, 400)
            self.assertEqual(combined(form[:d + 1], told, 400), form)

    def test_errors(self):
        for value in NO_WEIGHTS:
            malformed(self, dimension, value)
            for function in (generators, echelon):
                malformed(self, function, value, 5)
                malformed(self, function, value, None)
        for value in NO_LENGTHS:
            for function in (generators, echelon):
                malformed(self, function, 12, value)


class Coordinates(unittest.TestCase):
    def test_forms(self):
        chance = random.Random(1)
        for k in WEIGHTS:
            d = cusps(k)
            for size in (d + 1, d + 2, d + 9):
                row = tuple(chance.randint(-10 ** 12, 10 ** 12) for _ in range(d + 1))
                form = form_of(row, k, size)
                self.assertEqual(form, combined(row, generators(k, size), size))
                self.assertEqual(coordinates(form, k), row)
                self.assertIsNone(first_unlike(form, k))

    def test_products_of_eisenstein_series(self):
        four, six = eisenstein(4, 30), eisenstein(6, 30)
        for a, b in itertools.product(range(6), range(6)):
            k = 4 * a + 6 * b
            if 4 <= k <= 100:
                form = times(power(four, a), power(six, b))
                row = coordinates(form, k)
                self.assertEqual(combined(row, generators(k, 30), 30), form)

    def test_no_forms(self):
        chance = random.Random(2)
        for k in (4, 6, 12, 14, 24, 26, 50, 98, 100):
            d = cusps(k)
            size = d + 8
            row = tuple(chance.randint(-50, 50) for _ in range(d + 1))
            form = form_of(row, k, size)
            for at in range(d + 1, size):
                for more in (1, -1, 10 ** 30):
                    other = form[:at] + (form[at] + more,) + form[at + 1:]
                    self.assertIsNone(coordinates(other, k))
                    self.assertEqual(first_unlike(other, k), at)
                    if at < size - 1:
                        # Later unlike items change nothing.
                        self.assertEqual(first_unlike(other[:-1] + (form[-1] - 7,), k), at)

    def test_other_weights(self):
        self.assertIsNone(coordinates(eisenstein(4, 10), 6))
        self.assertEqual(first_unlike(eisenstein(4, 10), 6), 1)
        self.assertEqual(coordinates(delta(10), 12), (0, 1))
        self.assertEqual(first_unlike(delta(10), 16), 2)
        self.assertEqual(coordinates((5,), 4), (5,))
        self.assertEqual(coordinates((0,) * 400, 100), (0,) * 9)
        self.assertEqual(first_unlike((0,) * 399 + (1,), 100), 399)
        self.assertEqual(first_unlike((0,) * 399 + (1,), 14), 399)

    def test_errors(self):
        for value in NO_SERIES:
            malformed(self, coordinates, value, 12)
            malformed(self, first_unlike, value, 12)
        for value in NO_WEIGHTS:
            malformed(self, coordinates, (1, 2, 3), value)
            malformed(self, first_unlike, (1, 2, 3), value)
            malformed(self, coordinates, None, value)
            malformed(self, form_of, (1, 2), value, 5)
        for k in WEIGHTS:
            d = cusps(k)
            for size in range(1, d + 1):
                refused(self, "short", coordinates, (1,) * size, k)
                refused(self, "short", first_unlike, (1,) * size, k)
        for value in NO_LENGTHS:
            malformed(self, form_of, (1, 2), 12, value)
        for value in NO_SERIES + ((1,), (1, 2, 3)):
            malformed(self, form_of, value, 12, 5)
        malformed(self, form_of, (1,) * 8, 100, 5)
        self.assertEqual(form_of((1, 2), 12, 1), (1,))

    def test_relation(self):
        """Point 11.5: E_6^2 is E_4^3 less 1728 Delta."""
        six = eisenstein(6, 50)
        self.assertEqual(product(six, six), plus(power(eisenstein(4, 50), 3), multiple(delta(50), -1728)))
        self.assertEqual(coordinates(times(six, six), 12), (1, -1728))


if __name__ == "__main__":
    unittest.main()
