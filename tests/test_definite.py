"""Points 4.3 to 4.7, and 7.9."""

import itertools
import random
import unittest

from classledger.definite import (
    class_number, hurwitz, is_reduced, reduced_form, reduced_forms, self_maps, value_pairs)
from classledger.squares import ways_three
from tests import slow
from tests.test_forms import NO_DISCRIMINANTS, NO_FORMS, malformed, random_matrix
from tests.test_primes import refused

INDEFINITE = ((1, 0, -10), (3, 10, -5), (-1, 1, 3), (10 ** 59, 1, -10 ** 59))


class Reduction(unittest.TestCase):
    def test_is_reduced(self):
        told = ((2, 1, 3), (2, -1, 3), (2, 2, 3), (2, 0, 2), (2, 1, 2), (2, 2, 2), (1, 1, 1), (1, 0, 1))
        others = ((2, -2, 3), (2, -1, 2), (2, -2, 2), (1, -1, 1), (3, 1, 2), (2, 3, 5), (2, -3, 5), (3, 3, 2), (2, 4, 9))
        for f in told:
            self.assertIs(is_reduced(f), True, f)
        for f in others:
            self.assertIs(is_reduced(f), False, f)
        for f in itertools.product(range(1, 7), range(-7, 8), range(1, 7)):
            if slow.disc(f) < 0:
                self.assertIs(is_reduced(f), f in slow.reduced(slow.disc(f)))

    def check_reduction(self, f, g):
        told, m = reduced_form(f)
        self.assertEqual(told, g)
        self.assertEqual(slow.det(m), 1)
        self.assertEqual(slow.move(f, m), g)

    def test_small(self):
        chance = random.Random(1)
        for D in range(-3, -200, -1):
            for g in slow.reduced(D) if D % 4 in (0, 1) else ():
                self.check_reduction(g, g)
                for _ in range(4):
                    self.check_reduction(slow.move(g, random_matrix(chance, 4, 3)), g)

    def test_edges(self):
        self.check_reduction((2, -2, 3), (2, 2, 3))
        self.check_reduction((2, -1, 2), (2, 1, 2))
        self.check_reduction((3, 2, 2), (2, 2, 3))
        self.check_reduction((5, 0, 1), (1, 0, 5))
        self.check_reduction((2, 3, 2), (1, 1, 2))

    def test_great(self):
        chance = random.Random(2)
        told = 0
        while told < 60:
            a = chance.randint(1, 10 ** chance.randint(1, 50))
            b = chance.randint(1 - a, a)
            g = (a, b, chance.randint(a + 1, a + 10 ** 50))
            f = slow.move(g, random_matrix(chance, chance.randint(1, 16), 9))
            if max(map(abs, f)) < 10 ** 60:
                self.check_reduction(f, g)
                told += 1
        f = slow.move((1, 1, 6), ((10 ** 29, 10 ** 29 - 1), (1, 1)))
        self.check_reduction(f, (1, 1, 6))
        big = 10 ** 60 - 1
        self.check_reduction((big, 1, big), (big, 1, big))
        self.check_reduction((big, -big, big), (big, big, big))
        self.assertIs(is_reduced((big, big, big)), True)

    def test_malformed(self):
        for function in (is_reduced, reduced_form, self_maps):
            for value in NO_FORMS + INDEFINITE:
                malformed(self, function, value)


class Counting(unittest.TestCase):
    def test_against_the_loop(self):
        for D in range(-3, -2500, -1):
            if D % 4 in (0, 1):
                told = slow.reduced(D)
                self.assertEqual(reduced_forms(D), tuple(told))
                primitive = [f for f in told if slow.content(f) == 1]
                self.assertEqual(class_number(D), len(primitive))

    def test_great(self):
        for D in (-10 ** 6, -999999, -999996):
            told = slow.reduced(D)
            self.assertEqual(reduced_forms(D), tuple(told))
            self.assertEqual(class_number(D), len([f for f in told if slow.content(f) == 1]))

    def test_bounds(self):
        for function in (reduced_forms, class_number):
            for D in (-1000003, -1000004, -10 ** 70):
                refused(self, "large", function, D)
            for value in NO_DISCRIMINANTS + (-1000001, -1000002, 5, 8, 1000005, 10 ** 70 + 1):
                malformed(self, function, value)


class SelfMaps(unittest.TestCase):
    def all_maps(self, f, most):
        """Return all matrices with items to a bound that move a form to itself, by trying."""
        found = []
        for p, q, r, s in itertools.product(range(-most, most + 1), repeat=4):
            m = ((p, q), (r, s))
            if p * s - q * r == 1 and slow.move(f, m) == f:
                found.append(m)
        return tuple(sorted(found))

    def test_reduced(self):
        for D in range(-3, -60, -1):
            for f in slow.reduced(D) if D % 4 in (0, 1) else ():
                self.assertEqual(self_maps(f), self.all_maps(f, 2))

    def test_moved(self):
        chance = random.Random(3)
        for g, many in (((1, 1, 1), 6), ((7, 7, 7), 6), ((1, 0, 1), 4), ((5, 0, 5), 4), ((2, 1, 3), 2), ((1, 0, 3), 2),
                        ((2, 2, 4), 2), ((1, 1, 2), 2), ((6, 0, 12), 2)):
            for _ in range(10):
                f = slow.move(g, random_matrix(chance, 5, 10 ** 3))
                maps = self_maps(f)
                self.assertEqual(len(maps), many)
                self.assertEqual(list(maps), sorted(set(maps)))
                for m in maps:
                    self.assertEqual(slow.det(m), 1)
                    self.assertEqual(slow.move(f, m), f)

    def test_great(self):
        k = 10 ** 59
        self.assertEqual(len(self_maps((k, k, k))), 6)
        self.assertEqual(self_maps((k, 1, k)), (((-1, 0), (0, -1)), ((1, 0), (0, 1))))


class Hurwitz(unittest.TestCase):
    def test_against_the_forms(self):
        for n in range(1, 1500):
            total = 0
            for a, b, c in slow.reduced(-n) if n % 4 in (0, 3) else ():
                total += 4 if a == b == c else 6 if a == c and b == 0 else 12
            self.assertEqual(hurwitz(n), total)

    def test_edges(self):
        self.assertEqual([hurwitz(n) for n in (0, 1, 2, 3, 4, -1, -3, -4, -10 ** 30)], [-1, 0, 0, 4, 6, 0, 0, 0, 0])
        self.assertEqual([hurwitz(3 * k * k) for k in (1, 2, 3, 5)], [4, 16, 16, 28])
        self.assertEqual([hurwitz(4 * k * k) for k in (1, 2, 3, 5)], [6, 18, 30, 30])

    def test_bounds(self):
        told = 0
        for f in slow.reduced(-10 ** 6):
            told += 6 if f[1] == 0 and f[0] == f[2] else 12
        self.assertEqual(hurwitz(10 ** 6), told)
        self.assertEqual(hurwitz(999998), 0)
        for n in (1000001, 1000002, 1000003, 1000004, 10 ** 40):
            refused(self, "large", hurwitz, n)
        for value in slow.ODD_VALUES:
            malformed(self, hurwitz, value)

    def test_three_squares(self):
        for n in range(700):
            self.assertEqual(ways_three(n), hurwitz(4 * n) - 2 * hurwitz(n))


class Values(unittest.TestCase):
    def test_against_walking(self):
        for D in (-3, -4, -7, -8, -12, -15, -16, -20, -23, -27, -28, -39, -84):
            for f in slow.reduced(D):
                told = {}
                for x, y in itertools.product(range(-16, 17), repeat=2):
                    told.setdefault(slow.at(f, x, y), []).append((x, y))
                for n in range(1, 50):
                    # 4 a f(x, y) is at least -D y^2, and 4 c f(x, y) at least -D x^2.
                    self.assertLessEqual(4 * max(f) * n, -D * 16 ** 2)
                    self.assertEqual(value_pairs(f, n), tuple(sorted(told.get(n, ()))), (f, n))

    def test_great(self):
        pairs = value_pairs((1, 0, 1), 10 ** 6)
        self.assertEqual(pairs, tuple((x, y) for x in range(-1000, 1001) for y in range(-1000, 1001)
                                      if x * x + y * y == 10 ** 6))
        self.assertEqual(value_pairs((10 ** 6, 0, 10 ** 6), 10 ** 6), ((-1, 0), (0, -1), (0, 1), (1, 0)))
        big = 10 ** 59
        self.assertEqual(value_pairs((1, 0, big), 9), ((-3, 0), (3, 0)))
        self.assertEqual(value_pairs((big, 1, big + 1), 9), ())
        for x, y in value_pairs((2, 1, 3), 999998):
            self.assertEqual(2 * x * x + x * y + 3 * y * y, 999998)

    def test_errors(self):
        for value in NO_FORMS + INDEFINITE:
            malformed(self, value_pairs, value, 5)
            malformed(self, value_pairs, value, 10 ** 7)
            malformed(self, value_pairs, value, None)
        for value in slow.ODD_VALUES + (0, -1, -10 ** 7):
            malformed(self, value_pairs, (1, 0, 1), value)
            malformed(self, value_pairs, (2, -2, 3), value)
        refused(self, "large", value_pairs, (1, 0, 1), 10 ** 6 + 1)
        refused(self, "large", value_pairs, (2, -2, 3), 10 ** 6 + 1)
        refused(self, "reduced", value_pairs, (2, -2, 3), 10 ** 6)
        refused(self, "reduced", value_pairs, (5, 0, 1), 1)


if __name__ == "__main__":
    unittest.main()
