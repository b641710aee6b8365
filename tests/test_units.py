"""Points 5.5 and 5.6."""

import unittest

from classledger.units import least_unit, minus_unit, narrow_number, unit_power, wide_number
from tests import slow
from tests.test_forms import NO_DISCRIMINANTS, malformed
from tests.test_primes import refused

# To so many u are tried.
MOST_TRIED = 3000

DISCRIMINANTS = [D for D in range(5, 450) if slow.is_discriminant(D)]


def tried(D, sign):
    """Return the least pair with t^2 - D u^2 = 4 or -4, None if there is none among those tried."""
    for u in range(1, MOST_TRIED):
        square = D * u * u + 4 * sign
        if square > 0:
            t = slow.floor_root(square)
            if t * t == square:
                return t, u
    return None


def principal_cycle(D):
    """Return the cycle that the steps lead to from the principal form."""
    f = (1, D % 2, (D % 2 - D) // 4)
    while not slow.on_cycle(f):
        f, _ = slow.step(f)
    return slow.cycle(f)


class Units(unittest.TestCase):
    def test_least_unit(self):
        seen = 0
        for D in DISCRIMINANTS:
            t, u = least_unit(D)
            self.assertTrue(t > 0 and u > 0 and t * t - D * u * u == 4)
            told = tried(D, 1)
            if u < MOST_TRIED:
                seen += 1
                self.assertEqual((t, u), told)
            else:
                self.assertIsNone(told)
        self.assertGreater(seen, 100)

    def test_minus_unit(self):
        seen = 0
        for D in DISCRIMINANTS:
            pair = minus_unit(D)
            self.assertEqual(pair is None, -1 not in [f[0] for f in principal_cycle(D)])
            if pair is None:
                self.assertIsNone(tried(D, -1))
                continue
            t, u = pair
            seen += 1
            self.assertTrue(t > 0 and u > 0 and t * t - D * u * u == -4)
            if u < MOST_TRIED:
                self.assertEqual(pair, tried(D, -1))
            # Its square is the least unit, so no smaller pair can be there.
            self.assertEqual(((t * t + D * u * u) // 2, t * u), least_unit(D))
        self.assertGreater(seen, 30)

    def test_told_units(self):
        self.assertEqual((least_unit(5), minus_unit(5)), ((3, 1), (1, 1)))
        self.assertEqual((least_unit(8), minus_unit(8)), ((6, 2), (2, 1)))
        self.assertEqual((least_unit(32), minus_unit(32)), ((6, 1), None))
        self.assertEqual((least_unit(12), minus_unit(12)), ((4, 1), None))
        self.assertEqual((least_unit(20), minus_unit(20)), ((18, 4), (4, 1)))
        self.assertEqual(minus_unit(4 * 34), None)

    def test_great_units(self):
        for D in (999997, 999996, 10 ** 6 - 7, 998001 + 4):
            t, u = least_unit(D)
            self.assertTrue(t > 0 and u > 0 and t * t - D * u * u == 4)
            pair = minus_unit(D)
            if pair:
                self.assertEqual(pair[0] ** 2 - D * pair[1] ** 2, -4)
                self.assertEqual(((pair[0] ** 2 + D * pair[1] ** 2) // 2, pair[0] * pair[1]), (t, u))
        self.assertEqual(least_unit(998001 + 4), (998003, 999))
        self.assertEqual(minus_unit(998001 + 4), (999, 1))

    def test_powers(self):
        for D in (5, 8, 12, 61, 28, 316):
            t, u = least_unit(D)
            pair = (2, 0)
            for k in range(51):
                self.assertEqual(unit_power(D, k), pair)
                self.assertEqual(pair[0] ** 2 - D * pair[1] ** 2, 4)
                pair = ((t * pair[0] + D * u * pair[1]) // 2, (t * pair[1] + u * pair[0]) // 2)
            refused(self, "large", unit_power, D, 51)
        # All pairs are powers.
        told = [(slow.floor_root(5 * u * u + 4), u) for u in range(1, 2000) if slow.floor_root(5 * u * u + 4) ** 2 == 5 * u * u + 4]
        self.assertEqual(told, [unit_power(5, k) for k in range(1, len(told) + 1)])

    def test_errors(self):
        for value in NO_DISCRIMINANTS + (-3, -4, -23, -10 ** 70):
            for function in (least_unit, minus_unit, narrow_number, wide_number):
                malformed(self, function, value)
            malformed(self, unit_power, value, 2)
            malformed(self, unit_power, value, 51)
            malformed(self, unit_power, value, None)
        for value in slow.ODD_VALUES + (-1, -51):
            malformed(self, unit_power, 5, value)
            malformed(self, unit_power, 1000001, value)
        for D in (1000001, 1000004, 10 ** 70 + 1):
            for function in (least_unit, minus_unit, narrow_number, wide_number):
                refused(self, "large", function, D)
            refused(self, "large", unit_power, D, 0)
        for function in (least_unit, minus_unit, narrow_number, wide_number):
            malformed(self, function, 10 ** 6)
            malformed(self, function, -10 ** 7)


class Numbers(unittest.TestCase):
    def test_against_the_cycles(self):
        halved = 0
        for D in DISCRIMINANTS:
            cycles = slow.cycles(D)
            self.assertEqual(narrow_number(D), len(cycles))
            # The cycle of (-a, b, -c) belongs to that of (a, b, c).
            told = {}
            for at, cycle in enumerate(cycles):
                for f in cycle:
                    told[f] = at
            pairs = {tuple(sorted((told[a, b, c], told[-a, b, -c]))) for a, b, c in told}
            self.assertEqual(wide_number(D), len(pairs))
            halved += len(pairs) < len(cycles)
        self.assertGreater(halved, 50)


if __name__ == "__main__":
    unittest.main()
