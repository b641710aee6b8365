"""Points 1.6 to 1.9."""

import itertools
import random
import unittest

from classledger.rows import (
    add, bar, determinant, dot, holds, is_row, kernel, moved, order_modulo, rest, scaled, smith_divisors, solve, span)
from tests import slow


def product(x, rows, width):
    """Return x M item by item."""
    return tuple(sum(c * row[k] for c, row in zip(x, rows)) for k in range(width))


def laplace(rows):
    """Return the determinant by its first row."""
    if not rows:
        return 1
    total = 0
    for k, item in enumerate(rows[0]):
        minor = [row[:k] + row[k + 1:] for row in rows[1:]]
        total += (-1) ** k * item * laplace(minor)
    return total


def minors_divisor(rows, width, size):
    """Return the greatest common divisor of all determinants of so many rows and columns."""
    result = 0
    for chosen in itertools.combinations(rows, size):
        for columns in itertools.combinations(range(width), size):
            a, b = result, abs(laplace([tuple(row[k] for k in columns) for row in chosen]))
            while b:
                a, b = b, a % b
            result = a
    return result


def tables():
    """Return pairs of rows and their width, of many kinds."""
    chance = random.Random(7)
    told = [((), 0), ((), 3), (((),), 0), (((), ()), 0), (((0, 0),), 2), (((0,), (0,)), 1), (((5,),), 1), (((-5,),), 1),
            (((2, 4), (3, 1)), 2), (((0, 2), (0, 3)), 2), (((2, 0), (0, 3)), 2), (((1, 2, 3), (2, 4, 6)), 3)]
    for n, width, most in ((1, 3, 5), (3, 1, 9), (2, 2, 6), (2, 3, 4), (3, 2, 4), (3, 3, 3), (4, 3, 2), (3, 4, 2),
                           (4, 4, 9), (5, 4, 3)):
        for _ in range(12):
            told.append((tuple(tuple(chance.randint(-most, most) for _ in range(width)) for _ in range(n)), width))
    return told


def great_table(n, width, digits, rank=None):
    """Return rows with great items, maybe sums of fewer rows."""
    chance = random.Random(n * 1000 + width + digits)
    most = 10 ** digits
    rows = [tuple(chance.randint(-most, most) for _ in range(width)) for _ in range(rank or n)]
    while len(rows) < n:
        c = [chance.randint(-5, 5) for _ in range(rank)]
        rows.append(product(c, rows, width))
    return tuple(rows)


GREAT = ((great_table(12, 12, 40), 12), (great_table(18, 18, 30), 18), (great_table(18, 12, 30), 12),
         (great_table(12, 18, 30), 18), (great_table(18, 18, 20, rank=11), 18), (great_table(12, 12, 12, rank=5), 12))


class Rows(unittest.TestCase):
    def test_is_row(self):
        self.assertIs(is_row((), 0), True)
        self.assertIs(is_row((1, -2, 10 ** 90), 3), True)
        for value in slow.ODD_VALUES:
            told = isinstance(value, tuple) and len(value) == 3 and all(type(item) is int for item in value)
            self.assertIs(is_row(value, 3), told)
        self.assertIs(is_row((1, 2), 3), False)
        self.assertIs(is_row([1, 2], 2), False)
        self.assertIs(is_row((1, True), 2), False)
        self.assertIs(is_row("12", 2), False)

    def test_sums(self):
        self.assertEqual(add((1, -2), (3, 5)), (4, 3))
        self.assertEqual(scaled((1, -2), -3), (-3, 6))
        self.assertEqual(dot((1, -2, 3), (4, 5, 6)), 12)
        self.assertEqual((add((), ()), scaled((), 4), dot((), ())), ((), (), 0))

    def test_moved(self):
        self.assertEqual(moved((), (), 3), (0, 0, 0))
        self.assertEqual(moved((2, -1), [(1, 2, 3), (4, 5, 6)], 3), (-2, -1, 0))
        self.assertEqual(moved((2, -1), ((), ()), 0), ())


class Lattices(unittest.TestCase):
    def check_reduced(self, space, width):
        self.assertIsInstance(space, tuple)
        pivots = []
        for row in space:
            self.assertIsInstance(row, tuple)
            self.assertEqual(len(row), width)
            self.assertTrue(any(row))
            pivots.append([k for k, item in enumerate(row) if item][0])
        self.assertEqual(pivots, sorted(set(pivots)))
        for k, at in enumerate(pivots):
            self.assertGreater(space[k][at], 0)
            for row in space[:k]:
                self.assertTrue(0 <= row[at] < space[k][at])

    def check_holds(self, space, x):
        """Tell whether a row is in the lattice, by going through the pivots."""
        for row in space:
            at = [k for k, item in enumerate(row) if item][0]
            if x[at] % row[at]:
                return False
            x = tuple(a - x[at] // row[at] * b for a, b in zip(x, row))
        return not any(x)

    def check_span(self, rows, width):
        space = span(rows, width)
        self.check_reduced(space, width)
        for row in rows:
            self.assertTrue(self.check_holds(space, row))
        for row in space:
            # Each row of the reduced table is a sum of multiples of the rows.
            x = solve(rows, width, row)
            self.assertEqual(product(x, rows, width), row)
        self.assertEqual(span(space, width), space)
        self.assertEqual(span(list(reversed(rows)), width), space)
        self.assertEqual(span(list(rows) + list(rows), width), space)
        mixed = [add(row, scaled(rows[k - 1], 7)) if k else row for k, row in enumerate(rows)]
        self.assertEqual(span(tuple(mixed), width), space)
        if space:
            doubled = [scaled(row, 2) for row in rows]
            self.assertEqual(span(doubled, width), tuple(scaled(row, 2) for row in space))

    def test_span(self):
        for rows, width in tables():
            self.check_span(rows, width)

    def test_great_span(self):
        for rows, width in GREAT:
            self.check_span(rows, width)

    def test_span_against_all_sums(self):
        for rows in (((2, 4), (3, 1)), ((4, 6), (6, 4)), ((0, 6), (0, 4)), ((-3, 1), (3, -1))):
            space = span(rows, 2)
            for x in itertools.product(range(-6, 7), repeat=2):
                told = any(product(c, rows, 2) == x for c in itertools.product(range(-25, 26), repeat=2))
                self.assertIs(holds(space, x), told)

    def test_rest(self):
        chance = random.Random(3)
        for rows, width in tables():
            space = span(rows, width)
            pivots = [[k for k, item in enumerate(row) if item][0] for row in space]
            for _ in range(8):
                x = tuple(chance.randint(-30, 30) for _ in range(width))
                left = rest(space, x)
                for row, at in zip(space, pivots):
                    self.assertTrue(0 <= left[at] < row[at])
                self.assertTrue(self.check_holds(space, tuple(a - b for a, b in zip(x, left))))
                self.assertIs(holds(space, x), not any(left))
                self.assertIs(holds(space, x), self.check_holds(space, x))
        self.assertEqual(rest((), (4, -5)), (4, -5))

    def check_kernel(self, rows, width):
        space = kernel(rows, width)
        self.check_reduced(space, len(rows))
        for x in space:
            self.assertFalse(any(product(x, rows, width)))
        self.assertEqual(len(space), len(rows) - len(span(rows, width)))
        # Nothing is missing: its rows have no divisors, so the lattice holds what it spans over fractions.
        self.assertEqual(smith_divisors(space, len(rows)), (1,) * len(space))

    def test_kernel(self):
        for rows, width in tables():
            self.check_kernel(rows, width)
            self.check_kernel(list(rows), width)
        self.assertEqual(kernel(((), ()), 0), ((1, 0), (0, 1)))
        self.assertEqual(kernel((), 3), ())

    def test_great_kernel(self):
        for rows, width in GREAT:
            self.check_kernel(rows, width)


class Solving(unittest.TestCase):
    def check_one_of_both(self, rows, width, b):
        """Check that just one of solve and bar tells something, and that it shows it."""
        x = solve(rows, width, b)
        told = bar(rows, width, b)
        if x is not None:
            self.assertIsNone(told)
            self.assertTrue(is_row(x, len(rows)))
            self.assertEqual(product(x, rows, width), b)
            return True
        self.assertIsInstance(told, tuple)
        t, m = told
        self.assertTrue(is_row(t, width))
        self.assertIs(type(m), int)
        self.assertGreaterEqual(m, 2)
        for row in rows:
            self.assertEqual(sum(a * c for a, c in zip(t, row)) % m, 0)
        self.assertNotEqual(sum(a * c for a, c in zip(t, b)) % m, 0)
        return False

    def test_small(self):
        chance = random.Random(5)
        seen = []
        for rows, width in tables():
            for _ in range(6):
                b = tuple(chance.randint(-9, 9) for _ in range(width))
                seen.append(self.check_one_of_both(rows, width, b))
                x = tuple(chance.randint(-4, 4) for _ in rows)
                self.assertTrue(self.check_one_of_both(list(rows), width, product(x, rows, width)))
        self.assertIn(False, seen)

    def test_edges(self):
        self.assertEqual(solve((), 2, (0, 0)), ())
        self.assertIsNone(solve((), 2, (0, 1)))
        self.assertFalse(self.check_one_of_both((), 2, (0, 1)))
        self.assertTrue(self.check_one_of_both((), 0, ()))
        self.assertTrue(self.check_one_of_both(((), ()), 0, ()))
        self.assertFalse(self.check_one_of_both(((2, 0), (0, 3)), 2, (1, 3)))
        self.assertFalse(self.check_one_of_both(((2, 0), (0, 3)), 2, (2, 1)))
        self.assertFalse(self.check_one_of_both(((2, 1, 0), (0, 3, 1)), 3, (1, 2, 0)))
        self.assertFalse(self.check_one_of_both(((6, 1, 0, 0), (0, 4, 1, 0), (0, 0, 10, 3)), 4, (6, 3, 6, 1)))

    def test_great(self):
        for rows, width in GREAT:
            chance = random.Random(width)
            x = tuple(chance.randint(-10 ** 9, 10 ** 9) for _ in rows)
            b = product(x, rows, width)
            self.assertTrue(self.check_one_of_both(rows, width, b))
            self.assertFalse(self.check_one_of_both(tuple(scaled(row, 6) for row in rows), width, scaled(rows[0], 3)))
            self.check_one_of_both(rows, width, tuple(item + 1 for item in b))


class Orders(unittest.TestCase):
    def test_order(self):
        chance = random.Random(11)
        for rows, width in tables():
            space = span(rows, width)
            bound = 1
            for d in smith_divisors(rows, width):
                bound *= d
            for _ in range(5):
                h = tuple(chance.randint(-6, 6) for _ in range(width))
                order = order_modulo(rows, width, h)
                within = len(span(rows + (h,), width)) == len(space)
                self.assertEqual(order > 0, within)
                if within:
                    self.assertTrue(holds(space, scaled(h, order)))
                    self.assertTrue(bound % order == 0)
                    for p, _ in slow.factors(order):
                        self.assertFalse(holds(space, scaled(h, order // p)))

    def test_told_orders(self):
        rows = ((2, 0), (0, 3))
        for h in itertools.product(range(-4, 5), repeat=2):
            told = [n for n in range(1, 7) if n * h[0] % 2 == 0 and n * h[1] % 3 == 0]
            self.assertEqual(order_modulo(rows, 2, h), told[0])
        self.assertEqual(order_modulo((), 2, (0, 1)), 0)
        self.assertEqual(order_modulo((), 2, (0, 0)), 1)
        self.assertEqual(order_modulo([(2, 2)], 2, (1, 2)), 0)
        self.assertEqual(order_modulo([(2, 2)], 2, (3, 3)), 2)
        self.assertEqual(order_modulo([(2, 2)], 2, (4, 4)), 1)
        self.assertEqual(order_modulo(((4, 1), (0, 6)), 2, (1, 0)), 24)
        for rows, width in GREAT:
            self.assertEqual(order_modulo(rows, width, rows[1]), 1)


class Divisors(unittest.TestCase):
    def test_smith(self):
        for rows, width in tables():
            divisors = smith_divisors(rows, width)
            self.assertIsInstance(divisors, tuple)
            self.assertEqual(len(divisors), len(span(rows, width)))
            before = 1
            for k, d in enumerate(divisors):
                self.assertGreater(d, 0)
                self.assertEqual(d % (divisors[k - 1] if k else 1), 0)
                # The product of the first k divisors is the common divisor of the minors of k rows.
                before *= d
                self.assertEqual(before, minors_divisor(rows, width, k + 1))

    def test_told_divisors(self):
        self.assertEqual(smith_divisors(((2, 0), (0, 3)), 2), (1, 6))
        self.assertEqual(smith_divisors([(4, 0, 0), (0, 6, 0), (0, 0, 10)], 3), (2, 2, 60))
        self.assertEqual(smith_divisors(((0, 0), (0, 0)), 2), ())
        self.assertEqual(smith_divisors((), 5), ())
        self.assertEqual(smith_divisors(((6, 10, 15),), 3), (1,))

    def test_great_divisors(self):
        for rows, width in GREAT:
            divisors = smith_divisors(rows, width)
            for low, high in zip(divisors, divisors[1:]):
                self.assertEqual(high % low, 0)
            self.assertEqual(len(divisors), len(span(rows, width)))
            if len(rows) == width == len(divisors):
                total = 1
                for d in divisors:
                    total *= d
                self.assertEqual(total, abs(determinant(rows)))

    def test_determinant(self):
        seen = set()
        for rows, width in tables():
            if len(rows) == width:
                told = laplace(rows)
                self.assertEqual(determinant(rows), told)
                self.assertEqual(determinant(list(rows)), told)
                seen.add((told > 0) - (told < 0))
        self.assertEqual(seen, {-1, 0, 1})
        self.assertEqual(determinant(()), 1)
        self.assertEqual(determinant([]), 1)
        self.assertEqual(determinant(((0, 1), (1, 0))), -1)
        self.assertEqual(determinant(((0, 0, 2), (0, 3, 0), (5, 0, 0))), -30)
        self.assertEqual(determinant(((1, 2), (2, 4))), 0)

    def test_great_determinant(self):
        rows, width = GREAT[1]
        pivots = 1
        for k, row in enumerate(span(rows, width)):
            pivots *= row[k]
        self.assertEqual(abs(determinant(rows)), pivots)
        turned = (rows[1], rows[0]) + rows[2:]
        self.assertEqual(determinant(turned), -determinant(rows))
        l = 10 ** 9 + 7
        self.assertEqual(determinant(rows) % l, modular_determinant(rows, l))

    def test_arguments_do_not_change(self):
        rows = [(4, 6), (6, 4)]
        for function in (span, kernel, smith_divisors):
            function(rows, 2)
        determinant(rows)
        for function in (solve, bar, order_modulo):
            self.assertEqual(function(rows, 2, (2, 0)), function(rows, 2, (2, 0)))
        self.assertEqual(rows, [(4, 6), (6, 4)])


def modular_determinant(rows, l):
    """Return the determinant modulo a prime, by elimination in its field."""
    table = [[item % l for item in row] for row in rows]
    result = 1
    while table:
        at = [k for k, row in enumerate(table) if row[0]]
        if not at:
            return 0
        top = table.pop(at[0])
        result = result * top[0] * (-1) ** at[0] % l
        turn = pow(top[0], -1, l)
        table = [[(b - row[0] * turn * a) % l for a, b in zip(top, row)][1:] for row in table]
    return result


if __name__ == "__main__":
    unittest.main()
