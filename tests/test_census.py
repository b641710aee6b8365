"""Points 9.4 to 9.9: curves counted."""

import unittest

from classledger.alike import curve_of, curve_turns, told_curve
from classledger.census import (
    curve_census, curve_structures, curves_with, curves_with_part, number_over, rational_invariant, rational_traces)
from classledger.curves import is_curve
from classledger.definite import class_number, hurwitz
from classledger.groups import point_structure
from classledger.level import delta
from classledger.orders import curve_trace, point_count
from classledger.primes import primes_to
from tests import slow
from tests.test_alike import NO_PRIMES
from tests.test_forms import malformed
from tests.test_primes import refused

SMALL = (5, 7, 11, 13, 17, 19, 23)
RATIONAL = {-3: 0, -4: 1728, -7: -3375, -8: 8000, -11: -32768, -12: 54000, -16: 287496, -19: -884736, -27: -12288000,
            -28: 16581375, -43: -884736000, -67: -147197952000, -163: -262537412640768000}


def structures(p):
    """Return a dict from traces to a dict from structures to the numbers of their curves, by walking."""
    found = {}
    for curve in slow.curves(p):
        points = slow.points(curve)
        n = max(slow.order(curve, Q) for Q in points)
        told = found.setdefault(p + 1 - len(points), {})
        m = len(points) // n
        told[m, n] = told.get((m, n), 0) + 1
    return found


class Census(unittest.TestCase):
    def test_small(self):
        for p in SMALL:
            told = sorted({told_curve(curve) for curve in slow.curves(p)})
            rows = tuple((a, b, curve_turns((q, a, b)), curve_trace((q, a, b))) for q, a, b in told)
            self.assertEqual(curve_census(p), rows)

    def test_numbers_of_classes(self):
        for p in SMALL + (97, 101, 103, 107, 499):
            census = curve_census(p)
            self.assertEqual(len(census), 2 * p + {1: 6, 5: 2, 7: 4, 11: 0}[p % 12])
            self.assertEqual(sum(12 // w for _, _, w, _ in census), 12 * p)
            self.assertEqual(sum((p - 1) // w for _, _, w, _ in census), p * p - p)

    def test_errors(self):
        for value in NO_PRIMES:
            malformed(self, curve_census, value)
        for p in (503, 9999999967):
            refused(self, "large", curve_census, p)


class Traces(unittest.TestCase):
    def test_against_the_census(self):
        for p in SMALL + (97, 101):
            told = {}
            for _, _, w, t in curve_census(p):
                told[t] = told.get(t, 0) + (p - 1) // w
            for t in range(-2 * p, 2 * p):
                self.assertEqual(curves_with(p, t), told.get(t, 0), (p, t))
                if t * t < 4 * p:
                    self.assertEqual(24 * curves_with(p, t), (p - 1) * hurwitz(4 * p - t * t))

    def test_all_curves(self):
        for p in (499, 997, 2003):
            most = slow.floor_root(4 * p)
            self.assertEqual(sum(curves_with(p, t) for t in range(-most, most + 1)), p * p - p)

    def test_sums(self):
        """Point 9.7: sums over all curves, with tau of chapter 11."""
        tau = delta(60)
        for p in (5, 7, 11, 13, 31, 59):
            most = slow.floor_root(4 * p)
            counts = {t: curves_with(p, t) for t in range(-most, most + 1)}
            self.assertEqual(sum(counts.values()), p * p - p)
            self.assertEqual(sum(t * t * c for t, c in counts.items()), (p - 1) * (p * p - 1))
            sums = {}
            for t, c in counts.items():
                before, now = 1, t
                for k in range(2, 15):
                    sums[k] = sums.get(k, 0) + before * c
                    before, now = now, t * now - p * before
            self.assertEqual([sums[k] for k in (4, 6, 8, 10, 14)], [1 - p] * 5)
            self.assertEqual(sums[12], (p - 1) * (-1 - tau[p]))

    def test_edges(self):
        self.assertEqual([curves_with(5, t) for t in range(-6, 7)], [0, 0, 1, 2, 3, 2, 4, 2, 3, 2, 1, 0, 0])
        p = 249989
        self.assertEqual(24 * curves_with(p, 0), (p - 1) * hurwitz(4 * p))
        self.assertEqual([curves_with(p, t) for t in (1000, -1000, 10 ** 30)], [0, 0, 0])
        self.assertGreater(curves_with(p, 999), 0)

    def test_errors(self):
        for value in NO_PRIMES:
            malformed(self, curves_with, value, 0)
            malformed(self, curves_with_part, value, 0, 1)
            malformed(self, curve_structures, value, 0)
            malformed(self, number_over, value, 0, 1)
            malformed(self, curves_with, value, None)
        for value in slow.ODD_VALUES:
            malformed(self, curves_with, 7, value)
            malformed(self, curves_with_part, 7, value, 1)
            malformed(self, curve_structures, 7, value)
            malformed(self, number_over, 7, value, 1)
            malformed(self, curves_with, 250007, value)
            malformed(self, curve_structures, 250007, value)
        for value in slow.ODD_VALUES + (0, -1):
            malformed(self, curves_with_part, 7, 0, value)
            malformed(self, curves_with_part, 250007, 0, value)
            malformed(self, number_over, 7, 100, value)
        for p in (250007, 9999999967):
            for t in (0, 1, 10 ** 9):
                refused(self, "large", curves_with, p, t)
                refused(self, "large", curves_with_part, p, t, 1)
                refused(self, "large", curve_structures, p, t)


class Structures(unittest.TestCase):
    def test_against_walking(self):
        for p in SMALL:
            found = structures(p)
            for t in range(-12, 13):
                told = found.get(t, {})
                self.assertEqual(curve_structures(p, t), tuple(sorted(told.items())), (p, t))
                for k in range(1, 9):
                    many = sum(c for (m, _), c in told.items() if m % k == 0)
                    self.assertEqual(curves_with_part(p, t, k), many, (p, t, k))

    def test_against_the_groups(self):
        for p in (61, 73, 97):
            told = {}
            for a, b, w, t in curve_census(p):
                key = (t, point_structure((p, a, b)))
                told[key] = told.get(key, 0) + (p - 1) // w
            for t in range(-20, 21):
                rows = tuple(sorted((key[1], c) for key, c in told.items() if key[0] == t))
                self.assertEqual(curve_structures(p, t), rows, (p, t))

    def test_sums(self):
        for p, t in ((249989, 0), (249989, 2), (249973, 2), (1009, 2), (1009, -2), (1009, 200), (193, 26)):
            told = curve_structures(p, t)
            self.assertEqual(sum(c for _, c in told), curves_with(p, t))
            for (m, n), c in told:
                self.assertEqual((m * n, n % m, (p - 1) % m), (p + 1 - t, 0, 0))
                self.assertGreater(c, 0)
                self.assertEqual(curves_with_part(p, t, m), sum(d for (k, _), d in told if k % m == 0))
        self.assertEqual(curves_with_part(7, 0, 10 ** 30), 0)
        self.assertEqual(curves_with_part(7, 6, 1), 0)


class Fields(unittest.TestCase):
    def test_second_field(self):
        """The points over p^2: pairs of members of the field with r^2 = d."""
        for curve in ((5, 1, 0), (5, 1, 1), (7, 1, 1), (7, 0, 1), (7, 2, 0)):
            p, a, b = curve
            d = slow.least_nonsquare(p)
            squares = {}
            for x in range(p):
                for y in range(p):
                    square = ((x * x + d * y * y) % p, 2 * x * y % p)
                    squares[square] = squares.get(square, 0) + 1
            many = 1
            for x in range(p):
                for y in range(p):
                    first = x ** 3 + 3 * x * y * y * d + a * x + b
                    second = 3 * x * x * y + y ** 3 * d + a * y
                    many += squares.get((first % p, second % p), 0)
            self.assertEqual(number_over(p, curve_trace(curve), 2), many)

    def test_numbers(self):
        for p in (5, 7, 101, 9999999967):
            most = slow.floor_root(4 * p)
            for t in (0, 1, -1, 2, most, -most):
                sums = [2, t]
                while len(sums) < 101:
                    sums.append(t * sums[-1] - p * sums[-2])
                for k in (1, 2, 3, 10, 100):
                    self.assertEqual(number_over(p, t, k), p ** k + 1 - sums[k])
                self.assertEqual(number_over(p, t, 6) % number_over(p, t, 3), 0)
        self.assertEqual(number_over(10007, curve_trace((10007, 3, 5)), 1), point_count((10007, 3, 5)))

    def test_refused(self):
        for t in (5, -5, 10 ** 30):
            refused(self, "trace", number_over, 5, t, 1)
            refused(self, "trace", number_over, 5, t, 101)
        refused(self, "trace", number_over, 9999999967, 200001, 1)
        for k in (101, 10 ** 20):
            refused(self, "large", number_over, 5, 4, k)


class Rational(unittest.TestCase):
    def test_invariants(self):
        for D in range(-200, 200):
            self.assertEqual(rational_invariant(D), RATIONAL.get(D))
        for value in slow.ODD_VALUES + (-10 ** 40, (-3,), "-3", [-3], -10 ** 6):
            self.assertIsNone(rational_invariant(value))
        for D in RATIONAL:
            self.assertEqual(class_number(D), 1)

    def test_traces_of_curves(self):
        for D, j in RATIONAL.items():
            for p in primes_to(120)[2:] + (241,):
                if D % p:
                    self.assertEqual(rational_traces(D, p), self.by_the_curves(p, j % p), (D, p))

    def by_the_curves(self, p, j):
        """Return the traces of all curves over p with an invariant."""
        _, a, b = curve_of(p, j)
        if 0 in (a, b):
            curves = [(p, a * u % p, b * u % p) for u in range(1, p)]
        else:
            curves = [(p, a * u ** 2 % p, b * u ** 3 % p) for u in range(1, p)]
        return tuple(sorted({curve_trace(curve) for curve in curves}))

    def test_as_the_point_tells(self):
        for D in RATIONAL:
            for p in (1009, 10007, 9999999967, 9999999943):
                traces = rational_traces(D, p)
                if pow(D, (p - 1) // 2, p) != 1:
                    self.assertEqual(traces, (0,))
                    continue
                self.assertEqual(len(traces), {-3: 6, -4: 4}.get(D, 2))
                self.assertEqual(list(traces), sorted(-t for t in traces))
                for t in traces:
                    s = slow.floor_root((4 * p - t * t) // -D)
                    self.assertEqual(t * t - D * s * s, 4 * p)
                curve = curve_of(p, RATIONAL[D])
                self.assertIs(is_curve(curve), True)
                self.assertIn(curve_trace(curve), traces)

    def test_malformed(self):
        for value in NO_PRIMES:
            malformed(self, rational_traces, -3, value)
            malformed(self, rational_traces, None, value)
        for value in slow.ODD_VALUES + (3, 4, -15, -20, -23, -162, 0, -10 ** 40):
            malformed(self, rational_traces, value, 5)
        for D, p in ((-7, 7), (-28, 7), (-11, 11), (-19, 19), (-43, 43), (-67, 67), (-163, 163)):
            malformed(self, rational_traces, D, p)


if __name__ == "__main__":
    unittest.main()
