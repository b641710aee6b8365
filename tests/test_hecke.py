"""Points 12.1 to 12.6: Hecke operators, their matrices, traces and polynomials, and tau."""

import math
import random
import unittest

from classledger.hecke import (
    characteristic, from_traces, hecke_matrix, hecke_trace, operated, power_traces, tau)
from classledger.level import dimension, echelon, eisenstein
from tests import slow
from tests.test_forms import malformed
from tests.test_level import NO_WEIGHTS, cusps
from tests.test_primes import refused
from tests.test_series import NO_SERIES

NO_INDEXES = slow.ODD_VALUES + (0, -1, 401, 10 ** 30, "2", (2,), [2])
NO_INDEX_PRIMES = NO_INDEXES + (1, 4, 9, 91, 399, 400)
WHOLE = (12, 16, 18, 20, 22, 26)


def slow_operated(f, n, k):
    """Return T_n of a series, item by item."""
    items = []
    for m in range((len(f) - 1) // n + 1):
        commons = [c for c in range(1, n + 1) if n % c == 0 and m % c == 0]
        items.append(sum(c ** (k - 1) * f[m * n // (c * c)] for c in commons))
    return tuple(items)


def slow_matrix(k, n):
    """Return the rows of the matrix of T_n, out of the echelon basis, item by item."""
    d = cusps(k)
    forms = echelon(k, d * n + 1)
    return tuple(slow_operated(f, n, k)[1:d + 1] for f in forms[1:])


def added(one, two, c):
    """Return a matrix plus c times another one."""
    return tuple(tuple(a + c * b for a, b in zip(v, w)) for v, w in zip(one, two))


def random_series(chance, size):
    """Return a series of any integers."""
    return tuple(chance.randrange(-10 ** 6, 10 ** 6) for _ in range(size))


class Operated(unittest.TestCase):
    def test_items(self):
        chance = random.Random(121)
        for size in (1, 2, 3, 12, 13, 60, 400):
            f = random_series(chance, size)
            for n in list(range(1, 14)) + [30, 36, 60, 64, 397, 399, 400]:
                for k in (4, 12, 26, 100):
                    told = operated(f, n, k)
                    self.assertEqual(told, slow_operated(f, n, k))
                    self.assertEqual(len(told), (size - 1) // n + 1)

    def test_first_item(self):
        for n in (1, 2, 6, 12):
            self.assertEqual(operated((5,), n, 4), (5 * slow.divisor_powers(3, n),))

    def test_in_both_orders(self):
        chance = random.Random(122)
        f = random_series(chance, 400)
        for m, n in ((2, 3), (2, 2), (4, 6), (3, 9), (5, 10), (12, 18), (1, 7), (20, 20)):
            for k in (4, 12, 28):
                one, two = operated(operated(f, n, k), m, k), operated(operated(f, m, k), n, k)
                self.assertEqual(one, two)
                total = (0,) * len(one)
                for c in slow.divisors(math.gcd(m, n)):
                    part = operated(f, m * n // (c * c), k)[:len(one)]
                    total = tuple(a + c ** (k - 1) * b for a, b in zip(total, part))
                self.assertEqual(one, total)

    def test_forms_stay_forms(self):
        for k in (4, 6, 8, 10, 14):
            f = eisenstein(k, 200)
            for n in (2, 3, 4, 6, 30):
                sigma = slow.divisor_powers(k - 1, n)
                self.assertEqual(operated(f, n, k), tuple(sigma * item for item in f[:199 // n + 1]))

    def test_errors(self):
        for value in NO_SERIES:
            malformed(self, operated, value, 2, 12)
            malformed(self, operated, value, None, 12)
        for value in NO_INDEXES:
            malformed(self, operated, (1, 2), value, 12)
        for value in NO_WEIGHTS:
            malformed(self, operated, (1, 2), 2, value)


class Matrices(unittest.TestCase):
    def test_rows(self):
        for k in range(4, 101, 2):
            d = cusps(k)
            for n in (1, 2, 3, 4, 6, 9, 30):
                rows = hecke_matrix(k, n)
                self.assertEqual(rows, slow_matrix(k, n))
                self.assertEqual((type(rows), [type(row) for row in rows]), (tuple, [tuple] * d))
                self.assertEqual(hecke_trace(k, n), sum(rows[i][i] for i in range(d)))
            self.assertEqual(hecke_matrix(k, 1), tuple(tuple(int(i == j) for j in range(d)) for i in range(d)))

    def test_rows_and_not_columns(self):
        # f_1 = q + 195660 q^3 + 12080128 q^4 + .., so T_2 f_1 has a_2 = 0 at 1 and a_4 + 2^23 a_1 at 2.
        self.assertEqual(hecke_matrix(24, 2), ((0, 12080128 + 2 ** 23), (1, 1080)))

    def test_combinations_of_the_basis(self):
        for k in (24, 36, 38, 60):
            d = cusps(k)
            forms = echelon(k, 120)
            for n in (2, 3, 5):
                rows = hecke_matrix(k, n)
                for j in range(1, d + 1):
                    told = operated(forms[j], n, k)
                    total = tuple(sum(c * f[at] for c, f in zip(rows[j - 1], forms[1:])) for at in range(len(told)))
                    self.assertEqual(told, total)

    def test_products(self):
        for k in (12, 24, 26, 40, 60):
            for m, n in ((2, 3), (2, 2), (4, 2), (6, 4), (6, 6)):
                product = slow.matrix_times(hecke_matrix(k, m), hecke_matrix(k, n))
                self.assertEqual(product, slow.matrix_times(hecke_matrix(k, n), hecke_matrix(k, m)))
                total = tuple((0,) * cusps(k) for _ in range(cusps(k)))
                for c in slow.divisors(math.gcd(m, n)):
                    total = added(total, hecke_matrix(k, m * n // (c * c)), c ** (k - 1))
                self.assertEqual(product, total)

    def test_bounds(self):
        for k in (12, 24, 36, 60, 96, 100, 98):
            d = cusps(k)
            last = 399 // d
            self.assertEqual(hecke_matrix(k, last), slow_matrix(k, last))
            self.assertEqual(hecke_trace(k, last), sum(row[i] for i, row in enumerate(slow_matrix(k, last))))
            refused(self, "large", hecke_matrix, k, last + 1)
            refused(self, "large", hecke_trace, k, last + 1)
            refused(self, "large", hecke_matrix, k, 400)
        for k in (4, 6, 8, 10, 14):
            self.assertEqual((hecke_matrix(k, 400), hecke_trace(k, 400)), ((), 0))

    def test_bounds_of_roots(self):
        for k in range(12, 61, 2):
            for p in (2, 3, 5):
                self.assertLessEqual(hecke_trace(k, p) ** 2, 4 * cusps(k) ** 2 * p ** (k - 1))

    def test_errors(self):
        for function in (hecke_matrix, hecke_trace):
            for value in NO_WEIGHTS:
                malformed(self, function, value, 2)
                malformed(self, function, value, None)
            for value in NO_INDEXES:
                malformed(self, function, 12, value)
                malformed(self, function, 100, value)
                malformed(self, function, 4, value)


class Powers(unittest.TestCase):
    def test_traces(self):
        for k, p, most in ((12, 2, 20), (24, 2, 20), (36, 3, 6), (60, 2, 10), (100, 2, 8), (100, 47, 3), (4, 2, 5),
                           (12, 397, 2), (14, 397, 1)):
            matrix = power = slow_matrix(k, p)
            told = []
            for _ in range(most):
                told.append(sum(row[i] for i, row in enumerate(power)))
                power = slow.matrix_times(power, matrix)
            self.assertEqual(power_traces(k, p, most), tuple(told))

    def test_by_binomial_numbers(self):
        for k, p, most in ((12, 2, 8), (24, 2, 7), (24, 3, 4), (36, 2, 7), (40, 5, 3)):
            for i in range(1, most + 1):
                total = 0
                for j in range(i // 2 + 1):
                    many = math.comb(i, j) - (math.comb(i, j - 1) if j else 0)
                    total += many * p ** ((k - 1) * j) * hecke_trace(k, p ** (i - 2 * j))
                self.assertEqual(power_traces(k, p, i)[-1], total)

    def test_errors(self):
        for value in NO_WEIGHTS:
            malformed(self, power_traces, value, 2, 2)
        for value in NO_INDEX_PRIMES:
            malformed(self, power_traces, 12, value, 2)
        for value in slow.ODD_VALUES + (0, -1, 21, 10 ** 30, (2,)):
            malformed(self, power_traces, 12, 2, value)
            malformed(self, power_traces, 100, 397, value)
        refused(self, "large", power_traces, 24, 211, 1)
        refused(self, "large", power_traces, 100, 53, 20)
        self.assertEqual(len(power_traces(100, 47, 1)), 1)


class Polynomials(unittest.TestCase):
    def check(self, rows):
        told = characteristic(rows)
        size = len(rows)
        self.assertEqual((type(told), len(told), told[0]), (tuple, size + 1, 1))
        # A polynomial of the degree n is told by its values at n + 1 places.
        for x in range(-2, size):
            table = [tuple((x if i == j else 0) - rows[i][j] for j in range(size)) for i in range(size)]
            self.assertEqual(slow.determinant(table), sum(c * x ** (size - i) for i, c in enumerate(told)))

    def test_characteristic(self):
        chance = random.Random(125)
        self.assertEqual(characteristic(()), (1,))
        self.assertEqual(characteristic([]), (1,))
        self.assertEqual(characteristic(((7,),)), (1, -7))
        self.assertEqual(characteristic([(1, 2), (3, 4)]), (1, -5, -2))
        self.assertEqual(characteristic(((0,) * 4,) * 4), (1, 0, 0, 0, 0))
        for size in range(1, 7):
            for _ in range(4):
                self.check(tuple(tuple(chance.randrange(-9, 10) for _ in range(size)) for _ in range(size)))
                self.check([tuple(chance.randrange(-10 ** 9, 10 ** 9) for _ in range(size)) for _ in range(size)])

    def test_ten_rows(self):
        # Rows above the diagonal change nothing: the polynomial is the product of all x less an item.
        chance = random.Random(126)
        items = [chance.randrange(-50, 50) for _ in range(10)]
        rows = tuple(tuple(items[i] if i == j else chance.randrange(-9, 9) if j > i else 0 for j in range(10))
                     for i in range(10))
        told = [1]
        for item in items:
            told = [a - item * b for a, b in zip(told + [0], [0] + told)]
        self.assertEqual(characteristic(rows), tuple(told))

    def test_from_traces(self):
        chance = random.Random(127)
        self.assertEqual(from_traces(()), (1,))
        self.assertEqual(from_traces((5,)), (1, -5))
        for size in range(1, 9):
            roots = [chance.randrange(-9, 10) for _ in range(size)]
            told = [1]
            for item in roots:
                told = [a - item * b for a, b in zip(told + [0], [0] + told)]
            self.assertEqual(from_traces(tuple(sum(x ** i for x in roots) for i in range(1, size + 1))), tuple(told))
        for k in (24, 36, 48, 60):
            d = dimension(k) - 1
            self.assertEqual(from_traces(power_traces(k, 2, d)), characteristic(hecke_matrix(k, 2)))

    def test_no_traces(self):
        for value in (None, True, 1, "1", [1, 3], (1, None), (True,), ((1,),), slow.nested(60)):
            malformed(self, from_traces, value)
        for traces in ((1, 2), (0, 1), (0, 0, 1), (0, 0, 2), (2, 4, 9), (0, 0, 0, 2), (1, 2, 1)):
            refused(self, "traces", from_traces, traces)
        self.assertEqual(from_traces((0, 2, 3)), (1, 0, -1, -1))


class Tau(unittest.TestCase):
    def test_product(self):
        told = slow.taus(120)
        self.assertEqual([tau(n) for n in range(1, 121)], told[1:])
        self.assertEqual(tau(1), 1)

    def test_rules(self):
        told = {n: tau(n) for n in range(1, 400)}
        for m in range(1, 20):
            for n in range(1, 20):
                total = sum(c ** 11 * told[m * n // (c * c)] for c in slow.divisors(math.gcd(m, n)))
                self.assertEqual(told[m] * told[n], total)
        for p in (2, 3, 5, 7):
            q = p
            while q * p < 400:
                self.assertEqual(told[q * p], told[p] * told[q] - p ** 11 * told[q // p])
                q *= p
        for n in range(1, 400):
            self.assertEqual((told[n] - slow.divisor_powers(11, n)) % 691, 0)

    def test_one_form(self):
        for k in range(4, 101, 2):
            self.assertEqual(cusps(k) == 1, k in WHOLE)
        for k in WHOLE:
            f = echelon(k, 200)[1]
            for n in (1, 2, 6, 9, 25):
                self.assertEqual(operated(f, n, k), tuple(f[n] * item for item in f[:199 // n + 1]))
                self.assertEqual(hecke_matrix(k, n), ((f[n],),))
                self.assertEqual(hecke_trace(k, n), f[n])
        self.assertEqual([tau(n) for n in (1, 2, 6, 9, 25)], [hecke_trace(12, n) for n in (1, 2, 6, 9, 25)])

    def test_errors(self):
        for value in NO_INDEXES + (400,):
            malformed(self, tau, value)
        self.assertEqual(tau(399), tau(3) * tau(7) * tau(19))


if __name__ == "__main__":
    unittest.main()
