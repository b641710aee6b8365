"""Points 7.5 and 7.6: sums over cycles and over traces."""

import itertools
import math
import unittest

from classledger.definite import hurwitz
from classledger.sums import greater_sum, square_sum, turn_sum
from tests import slow
from tests.test_forms import NO_DISCRIMINANTS, malformed
from tests.test_primes import refused

FUNDAMENTAL = [D for D in range(-90, 0) if slow.is_discriminant(D) and slow.fundamental(D)[1] == 1]


def units(D):
    """Return w(D)."""
    return {-3: 6, -4: 4}.get(D, 2)


def by_the_cycles(D1, D2):
    """Return the sum of point 7.5, with a value of each sign for each cycle where there are such."""
    D = D1 * D2
    total = 0
    for cycle in slow.cycles(D):
        turns = sum(slow.step(f)[1] for f in cycle)
        values = {slow.at(cycle[0], x, y) for x in range(-8, 9) for y in range(-8, 9)}
        told = {slow.sign(D1, v) for v in values if math.gcd(v, D) == 1}
        assert len(told) == 1
        total += told.pop() * turns
    return total


class Turns(unittest.TestCase):
    def test_by_the_cycles(self):
        for D1, D2 in itertools.combinations(FUNDAMENTAL[-12:], 2):
            if math.gcd(D1, D2) == 1:
                self.assertEqual(turn_sum(D1, D2), by_the_cycles(D1, D2))

    def test_by_class_numbers(self):
        pairs = [(D1, D2) for D1, D2 in itertools.product(FUNDAMENTAL, repeat=2) if math.gcd(D1, D2) == 1]
        pairs += [(-3, -6659), (-4, -4999), (-19, -1051), (-7, -2851), (-23, -868), (-139, -143)]
        for D1, D2 in pairs:
            numbers = len(slow.primitive(D1)) * len(slow.primitive(D2))
            self.assertEqual(turn_sum(D1, D2) * units(D1) * units(D2), 48 * numbers, (D1, D2))

    def test_malformed(self):
        for value in NO_DISCRIMINANTS + (5, 8, 12, 10 ** 9 + 1):
            malformed(self, turn_sum, value, -3)
            malformed(self, turn_sum, -3, value)
            malformed(self, turn_sum, -10 ** 6, value)
            malformed(self, turn_sum, value, value)

    def test_refused(self):
        for D1, D2 in ((-3, -6667), (-3, -6671), (-4, -5003), (-20003, -3), (-3, -10 ** 70), (-148, -136), (-10 ** 6, -10 ** 6)):
            refused(self, "large", turn_sum, D1, D2)
        for D1, D2 in ((-4, -5000), (-12, -7), (-7, -12), (-16, -3), (-27, -27), (-28, -4), (-4, -36), (-12, -12)):
            refused(self, "fundamental", turn_sum, D1, D2)
        for D1, D2 in ((-3, -3), (-4, -8), (-15, -20), (-3, -24), (-7, -7), (-139, -139)):
            refused(self, "divisor", turn_sum, D1, D2)


class Traces(unittest.TestCase):
    def test_small(self):
        for n in range(1, 160):
            told = sum(hurwitz(4 * n - t * t) for t in range(-2 * n, 2 * n + 1) if t * t <= 4 * n)
            self.assertEqual(square_sum(n), told)
            self.assertEqual(greater_sum(n), 12 * sum(max(d, n // d) for d in slow.divisors(n)))
            self.assertEqual(square_sum(n), greater_sum(n))

    def test_great(self):
        for n in (997, 1024, 5040, 10007, 19881, 19997, 20000):
            self.assertEqual(greater_sum(n), 12 * sum(max(d, n // d) for d in slow.divisors(n)))
            self.assertEqual(square_sum(n), greater_sum(n))

    def test_errors(self):
        for function in (square_sum, greater_sum):
            for value in slow.ODD_VALUES + (0, -1, -20001):
                malformed(self, function, value)
            for n in (20001, 10 ** 30):
                refused(self, "large", function, n)


if __name__ == "__main__":
    unittest.main()
