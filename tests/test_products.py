"""Points 7.4 and 7.8: products of roots of one, and half factorials."""

import math
import unittest

from classledger.products import half_factorial, product_modulo, unit_modulo
from classledger.units import least_unit, narrow_number
from tests import slow
from tests.test_forms import NO_DISCRIMINANTS, malformed
from tests.test_primes import refused

FUNDAMENTAL = [D for D in range(5, 130) if slow.is_discriminant(D) and slow.fundamental(D)[1] == 1]
NO_PRIMES = slow.ODD_VALUES + (-11, 0, 1, 2, 4, 9, 15, 21, 121, 10 ** 7 + 19, 10 ** 30)


def primes_beside(D, many, least=3):
    """Return the first primes from a bound on that are 1 modulo D."""
    found = []
    l = least - least % D + 1
    while len(found) < many:
        if l >= max(least, 3) and slow.is_prime(l):
            found.append(l)
        l += D
    return found


def order(a, l):
    """Return the order of a modulo a prime, by walking."""
    x, m = a % l, 1
    while x != 1:
        x, m = x * a % l, m + 1
    return m


def by_the_point(D, l):
    """Return the pair of point 7.4, step by step."""
    z = next(z for z in range(2, l) if order(z, l) == D)
    r = sum(slow.sign(D, a) * pow(z, a, l) for a in range(1, D)) % l
    v = 1
    for a in range(1, D):
        v = v * pow(1 - pow(z, a, l), -slow.sign(D, a), l) % l
    return r, v


class Products(unittest.TestCase):
    def test_by_the_point(self):
        for D in FUNDAMENTAL[:18]:
            for l in primes_beside(D, 2):
                self.assertEqual(product_modulo(D, l), by_the_point(D, l), (D, l))

    def test_both_ways(self):
        for D in FUNDAMENTAL:
            for l in primes_beside(D, 3) + primes_beside(D, 1, 20000):
                r, v = product_modulo(D, l)
                self.assertEqual((r * r - D) % l, 0)
                self.assertEqual(unit_modulo(D, l, r), v, (D, l))

    def test_great(self):
        for D in (229, 1997, 1996, 1768, 1605, 1129, 1993):
            l = primes_beside(D, 1, 9 * 10 ** 6)[0]
            self.assertLess(l, 10 ** 7)
            r, v = product_modulo(D, l)
            self.assertEqual((r * r - D) % l, 0)
            self.assertEqual(unit_modulo(D, l, r), v, (D, l))

    def test_units(self):
        for D in FUNDAMENTAL[:12]:
            l = primes_beside(D, 1)[0]
            t, u = least_unit(D)
            for r in (0, 1, -1, -7, 10 ** 40, l, l - 1, 3 - 5 * l):
                told = pow((t + u * r) * pow(2, -1, l), narrow_number(D), l)
                self.assertEqual(unit_modulo(D, l, r), told)
                self.assertEqual(unit_modulo(D, l, r + l), told)

    def test_malformed(self):
        for value in NO_DISCRIMINANTS + (-3, -4, -23, -2003):
            malformed(self, product_modulo, value, 11)
            malformed(self, unit_modulo, value, 11, 4)
            malformed(self, product_modulo, value, None)
        for value in NO_PRIMES:
            malformed(self, product_modulo, 5, value)
            malformed(self, unit_modulo, 5, value, 4)
            malformed(self, product_modulo, 2001, value)
            malformed(self, product_modulo, 20, value)
        for value in slow.ODD_VALUES:
            malformed(self, unit_modulo, 5, 11, value)
            malformed(self, unit_modulo, 2001, 11, value)
            malformed(self, unit_modulo, 5, 7, value)

    def test_refused(self):
        for function, more in ((product_modulo, ()), (unit_modulo, (4,))):
            for D in (2001, 2004, 2005, 2045, 10 ** 70 + 1):
                refused(self, "large", function, D, 11, *more)
            for D in (20, 32, 45, 48, 2000):
                refused(self, "fundamental", function, D, 11, *more)
            for D, l in ((5, 7), (5, 3), (5, 5), (8, 3), (1997, 1997), (13, 101), (12, 11)):
                refused(self, "root", function, D, l, *more)


class HalfFactorials(unittest.TestCase):
    def test_against_the_product(self):
        for p in range(5, 1200):
            if slow.is_prime(p) and p % 4 == 3:
                told = math.factorial((p - 1) // 2) % p
                self.assertIn(told, (1, p - 1))
                self.assertEqual(half_factorial(p), 1 if told == 1 else -1)

    def test_great(self):
        for p in (99991, 999983):
            told = 1
            for k in range(1, (p - 1) // 2 + 1):
                told = told * k % p
            self.assertEqual(half_factorial(p) % p, told)

    def test_malformed(self):
        for value in slow.ODD_VALUES + (-7, 0, 1, 2, 3, 5, 9, 13, 15, 27, 1000003, 999999, 10 ** 40 + 3):
            malformed(self, half_factorial, value)


if __name__ == "__main__":
    unittest.main()
