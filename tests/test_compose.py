"""Points 6.1 and 6.2."""

import itertools
import random
import unittest

from classledger.compose import composing_rows, composition
from tests import slow
from tests.test_forms import NO_FORMS, malformed, random_matrix


def by_the_point(p, q):
    """Return the triple of point 6.1, item by item."""
    def m(i, j):
        return p[i] * q[j] - p[j] * q[i]
    f = (m(0, 1), m(0, 3) - m(1, 2), m(2, 3))
    g = (m(0, 2), m(0, 3) + m(1, 2), m(1, 3))
    return f, g, (q[1] * q[2] - q[0] * q[3], p[0] * q[3] + q[0] * p[3] - p[1] * q[2] - q[1] * p[2],
                  p[1] * p[2] - p[0] * p[3])


class Compositions(unittest.TestCase):
    def check_product(self, p, q, f, g, F):
        """Check that F composes the values of f and g at some places."""
        for x, y, z, w in ((1, 0, 1, 0), (0, 1, 0, 1), (1, 0, 0, 1), (2, -1, 3, 1), (-5, 7, 2, 11), (1, 1, 1, 1)):
            row = (x * z, x * w, y * z, y * w)
            X = sum(a * b for a, b in zip(p, row))
            Y = sum(a * b for a, b in zip(q, row))
            self.assertEqual(slow.at(f, x, y) * slow.at(g, z, w), slow.at(F, X, Y))

    def test_composition(self):
        chance = random.Random(1)
        for _ in range(400):
            p, q = (tuple(chance.randint(-10 ** k, 10 ** k) for _ in range(4)) for k in (chance.randint(0, 40), 2))
            f, g, F = composition(p, q)
            self.assertEqual((f, g, F), by_the_point(p, q))
            self.assertEqual(slow.disc(f), slow.disc(g))
            self.assertEqual(slow.disc(f), slow.disc(F))
            self.check_product(p, q, f, g, F)
        self.assertEqual(composition((0, 0, 0, 0), (0, 0, 0, 0)), ((0, 0, 0),) * 3)

    def test_malformed_rows(self):
        row = (1, 3, 3, 0)
        for value in [value for value in slow.ODD_VALUES if value != (1, 2, 3, 4)] + [
                (1, 2, 3), (1, 2, 3, 4, 5), [1, 2, 3, 4], (1, 2, 3, True), (1, None, 3, 4), (row,), "1234", 1234]:
            malformed(self, composition, value, row)
            malformed(self, composition, row, value)
            malformed(self, composition, value, value)

    def check_rows(self, f, g):
        p, q = composing_rows(f, g)
        one, two, F = by_the_point(p, q)
        self.assertEqual((one, two), (f, g))
        self.assertEqual(composition(p, q), (f, g, F))
        self.assertEqual(slow.disc(F), slow.disc(f))
        self.assertEqual(slow.content(F), 1)
        self.check_product(p, q, f, g, F)
        return F

    def forms(self, D):
        """Return forms of all classes of D, more than one of each for D above 0."""
        if D < 0:
            return [f for f in slow.reduced(D) if slow.content(f) == 1]
        return [f for cycle in slow.cycles(D) for f in cycle[:4]]

    def test_both_signs(self):
        shared = 0
        for D in (-3, -4, -15, -20, -23, -56, -84, -96, -108, -163, -260, 5, 12, 40, 60, 96, 136, 145, 229, 252):
            for f, g in itertools.product(self.forms(D), repeat=2):
                self.check_rows(f, g)
                shared += slow.gcd(slow.gcd(f[0], g[0]), (f[1] + g[1]) // 2) > 1
        self.assertGreater(shared, 50)

    def test_moved(self):
        chance = random.Random(2)
        for f, g in (((2, 1, 3), (2, 1, 3)), ((2, 1, 3), (2, -1, 3)), ((1, 0, 5), (2, 2, 3)), ((-3, 2, 3), (1, 6, -1)),
                     ((5, 4, 5), (3, 0, 7)), ((1, 1, 1), (1, 1, 1))):
            for _ in range(15):
                self.check_rows(slow.move(f, random_matrix(chance, 3, 8)), slow.move(g, random_matrix(chance, 3, 8)))

    def test_great(self):
        k = 10 ** 29
        self.check_great((k + 1, 1, k * k), (k * k, 1, k + 1))
        self.check_great((10 ** 20, 1, 10 ** 39), (10 ** 39, 1, 10 ** 20))
        self.check_great((10 ** 20, 1, -10 ** 39), (10 ** 20, -1, -10 ** 39))

    def check_great(self, f, g):
        p, q = composing_rows(f, g)
        one, two, F = composition(p, q)
        self.assertEqual((one, two, F), by_the_point(p, q))
        self.assertEqual((one, two), (f, g))
        self.assertEqual(slow.disc(F), slow.disc(f))

    def test_malformed_forms(self):
        f = (2, 1, 3)
        for value in NO_FORMS + ((2, 2, 2), (2, 0, 2), (2, 4, -4), (1, 1, 1), (1, 0, -10), (1, 1, 5), (4, 2, 6)):
            malformed(self, composing_rows, value, f)
            malformed(self, composing_rows, f, value)
        for one, two in (((2, 2, 2), (1, 0, 3)), ((2, 4, -4), (1, 6, -3))):
            self.assertEqual(slow.disc(one), slow.disc(two))
            malformed(self, composing_rows, one, two)
            malformed(self, composing_rows, two, one)
        malformed(self, composing_rows, (2, 2, 2), (2, 2, 2))
        malformed(self, composing_rows, (2, 4, -4), (2, 4, -4))


if __name__ == "__main__":
    unittest.main()
