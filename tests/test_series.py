"""Point 11.1: power series as far as a length, and Euler's product of point 11.3."""

import random
import unittest

from classledger.series import (
    check_length, euler_product, is_series, multiple, plus, power, shifted, times, unit_series)
from tests import slow
from tests.test_forms import malformed

NO_SERIES = tuple(value for value in slow.ODD_VALUES if value not in ((1, 2), (1, 2, 3, 4), (1, 2, 1), (0, 0, 0),
                                                                      (-1, 1, -6))) + (
    0, 5, (1, True), (False,), (1, None, 2), [1, 2], [1], ((1,),), "12", (1,) * 401, (0,) * 500, (1, "2"))
NO_LENGTHS = slow.ODD_VALUES + (0, -1, 401, 10 ** 30, (5,), "5", [5])


def product(f, g):
    """Return the product of two series, item by item as point 11.1 tells it."""
    return tuple(sum(f[i] * g[n - i] for i in range(n + 1)) for n in range(len(f)))


def chance_series(chance, size, most):
    """Return a series by chance."""
    return tuple(chance.randint(-most, most) for _ in range(size))


class Kinds(unittest.TestCase):
    def test_series(self):
        for size in (1, 2, 17, 399, 400):
            self.assertIs(is_series((0,) * size), True)
            self.assertIs(is_series(tuple(range(-3, size - 3))), True)
            self.assertIs(is_series([0] * size), False)
            self.assertIs(is_series((0,) * (size - 1) + (True,)), False)
        self.assertIs(is_series((10 ** 100, -10 ** 100)), True)
        for value in NO_SERIES:
            self.assertIs(is_series(value), False, value)

    def test_lengths(self):
        for size in (1, 2, 399, 400):
            self.assertIsNone(check_length(size))
        for value in NO_LENGTHS:
            malformed(self, check_length, value)


class Sums(unittest.TestCase):
    def test_small(self):
        chance = random.Random(1)
        for size in (1, 2, 3, 5, 30):
            for most in (1, 9, 10 ** 30):
                f, g, h = [chance_series(chance, size, most) for _ in range(3)]
                self.assertEqual(plus(f, g), tuple(a + b for a, b in zip(f, g)))
                self.assertEqual(times(f, g), product(f, g))
                self.assertEqual(times(f, plus(g, h)), plus(times(f, g), times(f, h)))
                self.assertEqual(times(f, unit_series(size)), f)
                for c in (0, 1, -3, 10 ** 40):
                    self.assertEqual(multiple(f, c), tuple(c * a for a in f))

    def test_great(self):
        chance = random.Random(2)
        f, g = chance_series(chance, 400, 10 ** 20), chance_series(chance, 400, 10)
        self.assertEqual(times(f, g), product(f, g))
        self.assertEqual(plus(f, g), tuple(a + b for a, b in zip(f, g)))

    def test_powers(self):
        chance = random.Random(3)
        for size in (1, 2, 20):
            f = chance_series(chance, size, 5)
            told = unit_series(size)
            for n in range(20):
                self.assertEqual(power(f, n), told)
                told = product(told, f)
        self.assertEqual(power((2,), 100), (2 ** 100,))
        self.assertEqual(power((1, 1) + (0,) * 398, 100)[:4], (1, 100, 4950, 161700))
        self.assertEqual(power((0, 1, 0), 0), (1, 0, 0))

    def test_units_and_shifts(self):
        self.assertEqual([unit_series(size) for size in (1, 2, 4)], [(1,), (1, 0), (1, 0, 0, 0)])
        self.assertEqual(unit_series(400), (1,) + (0,) * 399)
        f = (3, 1, 4, 1, 5)
        told = [f, (0, 3, 1, 4, 1), (0, 0, 3, 1, 4), (0, 0, 0, 3, 1), (0, 0, 0, 0, 3), (0,) * 5, (0,) * 5]
        self.assertEqual([shifted(f, n) for n in range(7)], told)
        self.assertEqual(shifted(f, 10 ** 30), (0,) * 5)
        self.assertEqual(shifted((7,), 1), (0,))

    def test_malformed(self):
        f = (1, 2, 3)
        for value in NO_SERIES + ((1, 2), (1, 2, 3, 4), (1,), (1,) * 400):
            for function in (plus, times):
                malformed(self, function, value, f)
                malformed(self, function, f, value)
        for value in NO_SERIES:
            for function in (plus, times):
                malformed(self, function, value, value)
            malformed(self, multiple, value, 2)
            malformed(self, power, value, 2)
            malformed(self, power, value, 0)
            malformed(self, shifted, value, 1)


class Euler(unittest.TestCase):
    def test_products(self):
        for size in (1, 2, 3, 13, 40):
            base = unit_series(size)
            for m in range(1, size):
                base = tuple(a - (base[at - m] if at >= m else 0) for at, a in enumerate(base))
            told = unit_series(size)
            for n in range(26):
                self.assertEqual(euler_product(size, n), told)
                told = product(told, base)

    def test_great(self):
        base = unit_series(400)
        for m in range(1, 400):
            base = tuple(a - (base[at - m] if at >= m else 0) for at, a in enumerate(base))
        self.assertEqual(euler_product(400, 1), base)
        self.assertEqual(euler_product(400, 0), unit_series(400))
        # Jacobi: the power 3 has the items (-1)^m (2 m + 1) at m (m + 1)/2.
        cubes = [0] * 400
        for m in range(28):
            cubes[m * (m + 1) // 2] = (-1) ** m * (2 * m + 1)
        self.assertEqual(euler_product(400, 3), tuple(cubes))
        self.assertEqual(product(euler_product(400, 99), base), euler_product(400, 100))


if __name__ == "__main__":
    unittest.main()
