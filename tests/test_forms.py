"""Points 4.1 and 4.2."""

import itertools
import random
import unittest

from classledger.errors import Malformed
from classledger.forms import (
    content, discriminant, inverse_matrix, is_discriminant, is_form, is_matrix, is_primitive, matrix_product,
    moved_form, principal_form, value_at)
from tests import slow
from tests.test_primes import refused

GREATEST = 10 ** 60 - 1
F = (2, 1, 3)
M = ((2, 1), (1, 1))

NO_FORMS = slow.ODD_VALUES + (
    0, 5, -23, (1, 0, 0), (1, 1, 0), (1, 3, 2), (0, 1, 5), (0, 0, 3), (-2, 1, -3), (-1, 0, -1), (10 ** 60, 1, 1),
    (1, 10 ** 60, 1), (1, 1, 10 ** 60), (1, 1, -10 ** 60), (2, 1, 3, 4), (2, 1), [2, 1, 3], (2, True, 3),
    ((2, 1, 3),), M)
NO_MATRICES = slow.ODD_VALUES + (
    0, 1, F, ((2, 1), (1, 2)), ((1, 2), (2, 3)), ((2, 1), (1, 1), (0, 0)), ([2, 1], [1, 1]), [[2, 1], [1, 1]],
    ((2, 1, 0), (1, 1, 0)), ((2, 1), (1, True)), (2, 1, 1, 1))
NO_DISCRIMINANTS = slow.ODD_VALUES + (0, 1, 4, 9, 16, 2, 3, -1, -2, -5, -6, 6, 7, 10 ** 80, F, M, -23.0)


def malformed(test, function, *arguments):
    """Check that a call raises Malformed."""
    with test.assertRaises(Malformed):
        function(*arguments)


def random_matrix(chance, steps, most):
    """Return a matrix, as a product of simple ones."""
    m = ((1, 0), (0, 1))
    for _ in range(steps):
        k = chance.randint(-most, most)
        m = slow.times(m, chance.choice((((1, k), (0, 1)), ((1, 0), (k, 1)), ((0, -1), (1, k)))))
    return m


class Kinds(unittest.TestCase):
    def test_discriminants(self):
        for D in range(-500, 1000):
            self.assertIs(is_discriminant(D), slow.is_discriminant(D))
        big = 10 ** 70
        self.assertEqual([is_discriminant(big * big + k) for k in (-3, 0, 1, 2, 3, 4, 5)],
                         [True, False, True, False, False, True, True])
        for value in NO_DISCRIMINANTS:
            self.assertIs(is_discriminant(value), False)

    def test_forms(self):
        for f in itertools.product(range(-4, 5), range(-5, 6), range(-4, 5)):
            D = slow.disc(f)
            told = slow.is_discriminant(D) and (D > 0 or f[0] > 0)
            self.assertIs(is_form(f), told, f)
        for value in NO_FORMS:
            self.assertIs(is_form(value), False)

    def test_great_forms(self):
        for f in ((GREATEST, 1, 1), (1, GREATEST, 1), (1, 1, GREATEST), (GREATEST, 1, GREATEST), (1, -GREATEST, -1),
                  (-GREATEST, 1, GREATEST)):
            self.assertIs(is_form(f), True)
            self.assertIs(is_form(tuple(item + (item > 0) - (item < 0) if abs(item) > 1 else item for item in f)), False)

    def test_matrices(self):
        for m in itertools.product(itertools.product(range(-2, 3), repeat=2), repeat=2):
            self.assertIs(is_matrix(m), slow.det(m) == 1)
        big = 10 ** 100
        self.assertIs(is_matrix(((1, big), (0, 1))), True)
        self.assertIs(is_matrix(((big + 1, big), (1, 1))), True)
        for value in NO_MATRICES:
            self.assertIs(is_matrix(value), False)


class Forms(unittest.TestCase):
    def test_told_numbers(self):
        for f in itertools.product(range(-6, 7), range(-5, 6), range(-6, 7)):
            if not is_form(f):
                continue
            self.assertEqual(discriminant(f), slow.disc(f))
            self.assertEqual(content(f), slow.content(f))
            self.assertIs(is_primitive(f), slow.content(f) == 1)
            for x, y in ((0, 0), (1, 0), (0, 1), (-2, 3), (7, 10 ** 70)):
                self.assertEqual(value_at(f, x, y), slow.at(f, x, y))

    def test_malformed(self):
        for value in NO_FORMS:
            for function in (discriminant, content, is_primitive):
                malformed(self, function, value)
            malformed(self, value_at, value, 1, 2)
            malformed(self, moved_form, value, M)
            for other in NO_MATRICES[:12]:
                malformed(self, moved_form, value, other)
            for other in NO_FORMS:
                malformed(self, value_at, value, other, 2)
        for value in slow.ODD_VALUES:
            malformed(self, value_at, F, value, 2)
            malformed(self, value_at, F, 2, value)
        for value in NO_MATRICES:
            malformed(self, moved_form, F, value)
            malformed(self, inverse_matrix, value)
            malformed(self, matrix_product, value, M)
            malformed(self, matrix_product, M, value)
        for value in NO_DISCRIMINANTS:
            malformed(self, principal_form, value)

    def test_principal(self):
        for D in range(-400, 400):
            if slow.is_discriminant(D):
                told = (1, 0, -D // 4) if D % 4 == 0 else (1, 1, (1 - D) // 4)
                self.assertEqual(principal_form(D), told)
                self.assertEqual(slow.disc(principal_form(D)), D)

    def test_great_principal(self):
        self.assertEqual(principal_form(-4 * GREATEST), (1, 0, GREATEST))
        self.assertEqual(principal_form(4 * GREATEST), (1, 0, -GREATEST))
        self.assertEqual(principal_form(1 - 4 * GREATEST), (1, 1, GREATEST))
        self.assertEqual(principal_form(1 + 4 * GREATEST), (1, 1, -GREATEST))
        for D in (-4 * 10 ** 60, 1 - 4 * 10 ** 60, 1 + 4 * 10 ** 60, 4 * 10 ** 60 + 8, -4 * 10 ** 90):
            refused(self, "large", principal_form, D)
        malformed(self, principal_form, 4 * 10 ** 60)
        malformed(self, principal_form, 10 ** 90 + 2)


class Moving(unittest.TestCase):
    def test_moved(self):
        chance = random.Random(1)
        for _ in range(300):
            f = tuple(chance.randint(-40, 40) for _ in range(3))
            if not is_form(f):
                continue
            m = random_matrix(chance, 4, 5)
            n = random_matrix(chance, 3, 4)
            g = moved_form(f, m)
            self.assertEqual(g, slow.move(f, m))
            (p, q), (r, s) = m
            for x, y in ((1, 0), (0, 1), (1, 1), (-3, 5)):
                self.assertEqual(value_at(g, x, y), value_at(f, p * x + q * y, r * x + s * y))
            self.assertEqual((discriminant(g), content(g)), (discriminant(f), content(f)))
            self.assertEqual(moved_form(g, n), moved_form(f, matrix_product(m, n)))
            self.assertEqual(moved_form(g, inverse_matrix(m)), f)
            self.assertEqual(moved_form(f, ((1, 0), (0, 1))), f)

    def test_matrices(self):
        chance = random.Random(2)
        for _ in range(200):
            m, n = random_matrix(chance, 5, 10 ** 30), random_matrix(chance, 5, 9)
            self.assertEqual(matrix_product(m, n), slow.times(m, n))
            self.assertEqual(slow.det(inverse_matrix(m)), 1)
            self.assertEqual(slow.times(m, inverse_matrix(m)), ((1, 0), (0, 1)))
            self.assertEqual(slow.times(inverse_matrix(m), m), ((1, 0), (0, 1)))

    def test_great_moves(self):
        big = 10 ** 30
        # The last item of the moved form is k^2 + 1.
        self.assertEqual(moved_form((1, 0, 1), ((1, big - 1), (0, 1)))[2], (big - 1) ** 2 + 1)
        refused(self, "large", moved_form, (1, 0, 1), ((1, big), (0, 1)))
        refused(self, "large", moved_form, (1, 0, 1), ((1, 0), (-big, 1)))
        # Only the middle item, 2 k, and the last one grow.
        self.assertEqual(moved_form((1, 0, -GREATEST), ((1, 1), (0, 1))), (1, 2, 1 - GREATEST))
        refused(self, "large", moved_form, (GREATEST, 0, 1), ((1, 1), (0, 1)))
        self.assertEqual(moved_form((GREATEST, 0, 1), ((0, -1), (1, 0))), (1, 0, GREATEST))
        refused(self, "large", moved_form, (6 * 10 ** 59, 1, -6 * 10 ** 59), ((1, 1), (0, 1)))
        malformed(self, moved_form, (10 ** 60, 1, 1), ((1, 10 ** 90), (0, 1)))


if __name__ == "__main__":
    unittest.main()
