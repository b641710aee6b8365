"""Points 8.6 and 8.10 to 8.13: structures, groups, rows, combinations and logarithms."""

import itertools
import random
import unittest

from classledger.curves import point_multiple, point_sum, points_at, twist_of
from classledger.groups import (
    is_point_group, point_combination, point_logarithm, point_structure, row_of_point, whole_group)
from classledger.orders import point_count, point_order
from classledger.pairing import weil_pairing
from classledger.rows import bar, dot
from tests import slow
from tests.test_curves import C, GREAT, GREAT_POINT, NO_CURVES, NO_POINTS, P
from tests.test_forms import malformed

TWO = (5, 1, 0)
SQUARE = ((0, 0), 2, (2, 0), 2)
GREAT_CURVES = (
    GREAT, (9999999967, 0, 1), (9999999967, 1, 0), (9999999929, 3, 0), (9999999943, 0, 1), (1000000009, 0, 7),
    (10 ** 9 + 7, 3, 0), (10007, 3, 5), (10009, 0, 11), (2 ** 31 - 1, 5, 0), (999983, 12, 34))


def structure(curve):
    """Return the structure, by walking: the greatest order of a point, and what is left of the number."""
    points = slow.points(curve)
    n = max(slow.order(curve, Q) for Q in points)
    return (len(points) // n, n)


def combined(curve, group, i, j):
    """Return i G + j H."""
    return point_sum(curve, point_multiple(curve, i, group[0]), point_multiple(curve, j, group[2]))


def is_group(curve, value):
    """Tell a group by walking through all its points: they have to be unlike."""
    G, n, H, m = value
    if n % m or slow.order(curve, G) != n or slow.order(curve, H) != m:
        return False
    told = {slow.added(curve, slow.multiplied(curve, i, G), slow.multiplied(curve, j, H))
            for i in range(n) for j in range(m)}
    return len(told) == m * n


class Groups(unittest.TestCase):
    def test_small(self):
        for curve in (TWO, C, (7, 0, 2), (13, 0, 4), (7, 0, 1), (11, 3, 0)):
            points = slow.points(curve)
            orders = {Q: slow.order(curve, Q) for Q in points}
            for G, H in itertools.product(points, repeat=2):
                for n, m in itertools.product({1, 2, orders[G]}, {1, 2, 3, orders[H]}):
                    value = (G, n, H, m)
                    self.assertIs(is_point_group(curve, value), is_group(curve, value), value)

    def test_great(self):
        for curve in GREAT_CURVES:
            G, n, H, m = whole_group(curve)
            self.assertIs(is_point_group(curve, (G, n, H, m)), True)
            self.assertIs(is_point_group(curve, (G, n, (), 1)), True)
            self.assertIs(is_point_group(curve, ((), 1, (), 1)), True)
            for value in ((G, 2 * n, H, m), (G, n, (), m + 1), (G, n, G, n), (G, n + 1, H, m), (G, 1, H, m),
                          (G, n * 10 ** 20, H, m), (G, 10 ** 40, H, m), (G, -n, H, m), (G, 0, H, m), (G, n, H, 0),
                          (G, n, H, -m), (G, n, (), 2), (H, n, G, m), (G, n, H, m, 1), (G, n, H), [G, n, H, m],
                          (G, True, H, m), (G, n, H, None), (G, None, H, m), (None, n, H, m), (G, n, None, m)):
                self.assertIs(is_point_group(curve, value), False, value)
            q, _ = slow.factors(n)[0]
            self.assertIs(is_point_group(curve, (point_multiple(curve, q, G), n, H, m)), False)

    def test_one_is_true(self):
        self.assertIs(is_point_group(C, (P, 5, (), True)), False)
        self.assertIs(is_point_group(C, ((), True, (), 1)), False)
        self.assertIs(is_point_group(C, (P, 5, (), 1)), True)

    def test_two_of_the_same_order(self):
        self.assertIs(is_point_group(TWO, SQUARE), True)
        self.assertIs(is_point_group(TWO, ((0, 0), 2, (0, 0), 2)), False)
        self.assertIs(is_point_group(TWO, ((0, 0), 2, (), 1)), True)
        self.assertIs(is_point_group(TWO, ((), 1, (0, 0), 2)), False)

    def test_other_values(self):
        for value in slow.ODD_VALUES + (0, 5, C, P, (P,) * 4, ((P, 5), ((), 1)), (P, 5, [], 1), ([0, 1], 5, (), 1)):
            self.assertIs(is_point_group(C, value), False)
        for value in NO_POINTS:
            self.assertIs(is_point_group(C, (value, 5, (), 1)), False)
            self.assertIs(is_point_group(C, (P, 5, value, 1)), False)

    def test_malformed(self):
        for value in NO_CURVES:
            malformed(self, is_point_group, value, (P, 5, (), 1))
            malformed(self, is_point_group, value, None)
            malformed(self, whole_group, value)
            malformed(self, point_structure, value)


class Structures(unittest.TestCase):
    def test_small(self):
        for p in (5, 7, 11, 13, 17):
            for curve in slow.curves(p):
                group = whole_group(curve)
                self.assertTrue(is_group(curve, group), curve)
                self.assertEqual((group[3], group[1]), structure(curve))
                self.assertEqual(point_structure(curve), structure(curve))

    def test_more(self):
        unlike = set()
        for p in (31, 37, 43, 61, 73, 97):
            for curve in [(p, 0, b) for b in range(1, 12)] + [(p, a, 0) for a in range(1, 12)] + [(p, 5, 2), (p, 2, 5)]:
                m, n = point_structure(curve)
                self.assertEqual((m, n), structure(curve))
                self.assertEqual((n % m, (p - 1) % m), (0, 0))
                unlike.add(m)
        self.assertTrue({1, 2, 3, 4, 5, 6, 7} <= unlike)

    def test_great(self):
        for curve in GREAT_CURVES:
            G, n, H, m = whole_group(curve)
            self.assertEqual(n * m, point_count(curve))
            self.assertEqual((n % m, (curve[0] - 1) % m), (0, 0))
            self.assertEqual((point_order(curve, G), point_order(curve, H)), (n, m))
            for q, _ in slow.factors(m):
                one, two = point_multiple(curve, n // q, G), point_multiple(curve, m // q, H)
                self.assertNotEqual(weil_pairing(curve, q, one, two), 1)
            self.assertEqual(point_structure(curve), (m, n))
            if m == 1:
                self.assertEqual(H, ())

    def test_number_by_two_groups(self):
        for curve in GREAT_CURVES + ((5, 1, 0), (7, 1, 1), (13, 0, 4)):
            one, two = whole_group(curve), whole_group(twist_of(curve))
            self.assertEqual(one[1] * one[3] + two[1] * two[3], 2 * curve[0] + 2)

    def test_great_first_parts(self):
        # For p = k^2 - k + 1 one of the six kinds of curves with a = 0 has the structure (k, k).
        for k in (13, 193, 1219, 99991):
            while not slow.is_prime(k) or not slow.is_prime(k * k - k + 1):
                k -= 1
            p = k * k - k + 1
            told = [(p, 0, b) for b in range(1, 30) if point_structure((p, 0, b)) == (k, k)]
            self.assertTrue(told)
            group = whole_group(told[0])
            self.assertEqual((group[1], group[3]), (k, k))
            self.assertIs(is_point_group(told[0], group), True)
            for i, j in ((0, 0), (1, 0), (0, 1), (k - 1, k - 1), (k // 2, k // 3)):
                self.assertEqual(row_of_point(told[0], group, combined(told[0], group, i, j)), (i, j))
            self.assertIsNone(point_logarithm(told[0], group[0], group[2]))


class Rows(unittest.TestCase):
    def check_rows(self, curve, group, points):
        G, n, H, m = group
        told = {}
        for i in range(n):
            for j in range(m):
                told[slow.added(curve, slow.multiplied(curve, i, G), slow.multiplied(curve, j, H))] = (i, j)
        for Q in points:
            self.assertEqual(row_of_point(curve, group, Q), told.get(Q), (curve, group, Q))

    def test_small(self):
        for curve in (TWO, C, (7, 0, 2), (13, 0, 4), (7, 0, 1), (11, 3, 0), (31, 0, 1), (37, 0, 1)):
            points = slow.points(curve)
            whole = whole_group(curve)
            self.check_rows(curve, whole, points)
            G, n, H, m = whole
            self.check_rows(curve, (G, n, (), 1), points)
            self.check_rows(curve, ((), 1, (), 1), points)
            for q, _ in slow.factors(n):
                part = (slow.multiplied(curve, q, G), n // q)
                self.check_rows(curve, part + ((), 1), points)
                if (n // q) % m == 0:
                    self.check_rows(curve, part + (H, m), points)
            if m > 1:
                self.check_rows(curve, (slow.added(curve, G, H), n, H, m), points)

    def test_orders_that_are_powers(self):
        # Parts of the orders q^e and q^f with e above f, also where a point is in no such group.
        for curve in ((97, 1, 0), (73, 0, 5), (73, 1, 0), (17, 1, 0), (61, 0, 8), (193, 0, 1)):
            points = slow.points(curve)
            G, n, H, m = whole_group(curve)
            self.check_rows(curve, (G, n, H, m), points)
            for q, _ in slow.factors(m):
                self.check_rows(curve, (G, n, slow.multiplied(curve, q, H), m // q), points)

    def test_great(self):
        chance = random.Random(2)
        for curve in GREAT_CURVES:
            group = whole_group(curve)
            G, n, H, m = group
            for _ in range(4):
                i, j = chance.randrange(n), chance.randrange(m)
                self.assertEqual(row_of_point(curve, group, combined(curve, group, i, j)), (i, j))
            if m > 1:
                self.assertIsNone(row_of_point(curve, (G, n, (), 1), H))
            q, _ = slow.factors(n)[-1]
            below = (point_multiple(curve, q, G), n // q, (), 1)
            self.assertIsNone(row_of_point(curve, below, G))

    def test_prime_number_of_points(self):
        curve = (9999999967, 1, 1)
        while not slow.is_prime(point_count(curve)):
            curve = (curve[0], 1, curve[2] + 1)
        Q = next(Q for x in range(9) for Q in points_at(curve, x))
        number = point_count(curve)
        self.assertEqual(point_structure(curve), (1, number))
        for k in (0, 1, number - 1, 1234567890, number // 2):
            R = point_multiple(curve, k, Q)
            self.assertEqual(row_of_point(curve, (Q, number, (), 1), R), (k, 0))
            self.assertEqual(point_logarithm(curve, Q, R), k)
        R, S = point_multiple(curve, 777, Q), point_multiple(curve, 10 ** 9, Q)
        told = point_combination(curve, [R, S], Q)
        self.assertEqual(point_sum(curve, point_multiple(curve, told[0], R), point_multiple(curve, told[1], S)), Q)

    def test_malformed(self):
        group = (P, 5, (), 1)
        for value in NO_CURVES:
            malformed(self, row_of_point, value, group, P)
            malformed(self, row_of_point, value, None, None)
        for value in NO_POINTS:
            malformed(self, row_of_point, C, group, value)
        for value in slow.ODD_VALUES + (0, C, (P, 5, (), 2), (P, 1, (), 1), (P, 5, P, 5), (P, 10, (), 1), [P, 5, (), 1],
                                        (P, 5, (), True), ((1, 1), 5, (), 1), (P, 10 ** 50, (), 1)):
            malformed(self, row_of_point, C, value, P)
            malformed(self, row_of_point, C, value, ())


class Combinations(unittest.TestCase):
    def spanned(self, curve, points):
        """Return all sums of multiples of points."""
        told = {()}
        for Q in points:
            told = {slow.added(curve, T, slow.multiplied(curve, k, Q)) for T in told for k in range(slow.order(curve, Q))}
        return told

    def check_combination(self, curve, points, Q, spanned):
        found = point_combination(curve, points, Q)
        self.assertEqual(found is not None, Q in spanned)
        if found is not None:
            self.assertIs(type(found), tuple)
            self.assertEqual(len(found), len(points))
            total = ()
            for k, R in zip(found, points):
                self.assertIs(type(k), int)
                total = point_sum(curve, total, point_multiple(curve, k, R))
            self.assertEqual(total, Q)

    def test_small(self):
        for curve in (TWO, C, (7, 0, 2), (13, 0, 4), (11, 3, 0)):
            points = slow.points(curve)
            for many in range(3):
                for told in itertools.product(points[:7], repeat=many):
                    spanned = self.spanned(curve, told)
                    for Q in points[:8]:
                        self.check_combination(curve, told, Q, spanned)
                        self.check_combination(curve, list(told), Q, spanned)

    def test_great(self):
        chance = random.Random(3)
        for curve in GREAT_CURVES:
            group = whole_group(curve)
            G, n, H, m = group
            q, _ = slow.factors(n)[0]
            points = [combined(curve, group, q * chance.randrange(n), chance.randrange(m)) for _ in range(3)]
            total = ()
            for R in points:
                total = point_sum(curve, total, point_multiple(curve, chance.randrange(n), R))
            self.check_combination(curve, points, total, {total})
            if m == 1:
                # All multiples of G by q are in a group that G is not in.
                self.check_combination(curve, points, G, set())
            self.check_combination(curve, [G, H], points[0], {points[0]})

    def test_edges(self):
        self.assertEqual(point_combination(C, (), ()), ())
        self.assertIsNone(point_combination(C, [], P))
        self.assertIsNone(point_combination(TWO, ((0, 0),), (3, 0)))
        self.assertIsNone(point_combination(TWO, [(), ()], (3, 0)))

    def test_malformed(self):
        for value in NO_CURVES:
            malformed(self, point_combination, value, (), ())
            malformed(self, point_combination, value, None, None)
        for value in NO_POINTS:
            malformed(self, point_combination, C, (P,), value)
            malformed(self, point_combination, C, (P, value), P)
            malformed(self, point_combination, C, [value], P)
        for value in (None, True, 1, "", "P", P, (1, 2), {}, C, (P, 5, (), 1), ((P,),), ([],)):
            malformed(self, point_combination, C, value, P)


class Logarithms(unittest.TestCase):
    def test_small(self):
        for p in (5, 7, 11):
            for curve in slow.curves(p):
                points = slow.points(curve)
                for one, two in itertools.product(points, repeat=2):
                    told = [k for k in range(slow.order(curve, one)) if slow.multiplied(curve, k, one) == two]
                    self.assertEqual(point_logarithm(curve, one, two), told[0] if told else None)

    def test_more(self):
        for curve in ((31, 0, 1), (37, 0, 1), (97, 1, 0), (73, 1, 0)):
            points = slow.points(curve)
            for one in points[::5]:
                told = {slow.multiplied(curve, k, one): k for k in range(slow.order(curve, one))}
                for two in points:
                    self.assertEqual(point_logarithm(curve, one, two), told.get(two))

    def test_great(self):
        order = point_order(GREAT, GREAT_POINT)
        for k in (0, 1, 2, order - 1, order // 2, 123456789):
            self.assertEqual(point_logarithm(GREAT, GREAT_POINT, point_multiple(GREAT, k, GREAT_POINT)), k)
        self.assertEqual(point_logarithm(GREAT, GREAT_POINT, point_multiple(GREAT, order + 7, GREAT_POINT)), 7)

    def test_edges(self):
        self.assertEqual(point_logarithm(C, (), ()), 0)
        self.assertEqual(point_logarithm(C, P, ()), 0)
        self.assertIsNone(point_logarithm(C, (), P))
        self.assertIsNone(point_logarithm(TWO, (0, 0), (2, 0)))
        self.assertEqual(point_logarithm(TWO, (0, 0), (0, 0)), 1)

    def test_malformed(self):
        for value in NO_CURVES:
            malformed(self, point_logarithm, value, (), ())
        for value in NO_POINTS:
            malformed(self, point_logarithm, C, value, P)
            malformed(self, point_logarithm, C, P, value)


class Bars(unittest.TestCase):
    def test_rows_bar_what_is_no_combination(self):
        """Point 8.13: a point is no sum of multiples exactly if a bar of chapter 1 shows it."""
        for curve in ((7, 0, 2), (13, 0, 4), (37, 0, 1)):
            group = whole_group(curve)
            _, n, _, m = group
            points = slow.points(curve)
            for one, two in itertools.product(points[:9], points):
                rows = [row_of_point(curve, group, one), (n, 0), (0, m)]
                b = row_of_point(curve, group, two)
                shown = bar(rows, 2, b)
                self.assertEqual(shown is None, point_combination(curve, [one], two) is not None)
                if shown is not None:
                    t, M = shown
                    self.assertFalse(any(dot(t, row) % M for row in rows))
                    self.assertTrue(dot(t, b) % M)


if __name__ == "__main__":
    unittest.main()
