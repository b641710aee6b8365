"""Points 14.4 to 14.9: lattices of codes, even lattices by their tables."""

import itertools
import math
import random
import unittest

from classledger.codes import code_of, golay_code, pair_code, small_code, sum_of_codes
from classledger.lattices import (
    e_eight, is_table, norm, parts_of_roots, roots_of_code, short_rows, theta_of_code, theta_of_table)
from tests import slow
from tests.test_codes import NO_CODE_LENGTHS, NO_CODES
from tests.test_forms import malformed
from tests.test_primes import refused
from tests.test_series import NO_LENGTHS

SMALL = small_code()
TWICE = sum_of_codes(SMALL, 8, SMALL, 8)
THRICE = sum_of_codes(TWICE, 16, SMALL, 8)
MIXED = sum_of_codes(SMALL, 8, pair_code(16), 16)
CODES = ((SMALL, 8), (TWICE, 16), (pair_code(16), 16), (THRICE, 24), (MIXED, 24), (pair_code(24), 24),
         (golay_code(), 24))

# Values that are no table, each near to one.
NO_TABLES = (
    None, True, 2, "2", (), [], [(2,)], ([2],), ((2, 1),), ((2,), (2,)), (2,), ((0,),), ((-2,),), ((1,),), ((3,),),
    ((True,),), ((2.0,),), ((None,),), (("2",),), ((2, 1), (0, 2)), ((2, 1), (1, 3)), ((2, 2), (2, 2)),
    ((2, 3), (3, 2)), ((2, 1), [1, 2]), ((2, 1), (1, 2), (0, 0)), ((2, 1, 0), (1, 2, 0)), ((2, True), (1, 2)),
    ((1000002,),), ((2, 0), (0, 1000002)), ((2, 1000001), (1000001, 10 ** 6)), ((-2, 0), (0, -2)),
    ((2, 0, 0), (0, 2, 2), (0, 2, 2)), ((2, -1, -1), (-1, 2, -1), (-1, -1, 2)), slow.nested(60), ((2, 1), (1, -2)),
    tuple(tuple(2 if i == j else 0 for j in range(9)) for i in range(9)))


def unit_table(n, item):
    """Return the table with an item on the diagonal."""
    return tuple(tuple(item if i == j else 0 for j in range(n)) for i in range(n))


def moved_table(table, chance, steps, most, limit=10 ** 6):
    """Return a table of the same lattice, and the rows of the new basis in the old one."""
    n = len(table)
    rows = [tuple(int(i == j) for j in range(n)) for i in range(n)]
    for _ in range(steps):
        i, j = chance.sample(range(n), 2)
        c = chance.randrange(-most, most + 1)
        tried = list(rows)
        tried[i] = tuple(a + c * b for a, b in zip(rows[i], rows[j]))
        if max(abs(slow_product(table, v, w)) for v in tried for w in tried) <= limit:
            rows = tried
    return tuple(tuple(slow_product(table, v, w) for w in rows) for v in rows), rows


def slow_product(table, x, y):
    """Return the sum of x_i y_j times the item i, j."""
    return sum(x[i] * y[j] * table[i][j] for i in range(len(x)) for j in range(len(y)))


def slow_rows(table, most):
    """Return all rows with a norm from 1 to most, by trying a box that contains them all."""
    n = len(table)
    total = slow.determinant(table)
    reach = []
    for k in range(n):
        # The square of the item k is at most the norm times a minor over the determinant.
        minor = slow.determinant(tuple(row[:k] + row[k + 1:] for at, row in enumerate(table) if at != k))
        reach.append(slow.floor_root(most * minor // total))
    found = []
    for x in itertools.product(*(range(-r, r + 1) for r in reach)):
        size = slow_product(table, x, x)
        if 1 <= size <= most:
            found.append((size, x))
    return tuple(x for _, x in sorted(found))


def counted_theta(code, n, size):
    """Return the theta series by counting rows: words, and the items that make up what is left of the square."""
    total = [0] * size
    even = [2 * m for m in range(-2 * size, 2 * size + 1)]
    odd = [2 * m + 1 for m in range(-2 * size, 2 * size + 1)]
    kinds = {}
    for word in slow.code_words(code, n):
        kinds[sum(word)] = kinds.get(sum(word), 0) + 1
    for w, many in kinds.items():
        ways = {0: 1}
        for at in range(n):
            later = {}
            for square, number in ways.items():
                for item in odd if at < w else even:
                    if square + item * item < 4 * size:
                        later[square + item * item] = later.get(square + item * item, 0) + number
            ways = later
        for square, number in ways.items():
            total[square // 4] += many * number
    return tuple(total)


def slow_roots(code, n):
    """Return the rows with the square 4 whose items modulo 2 are a word of the code."""
    words = slow.code_words(code, n)
    found = []
    for at in range(n):
        for item in (2, -2):
            found.append(tuple(item if k == at else 0 for k in range(n)))
    for places in itertools.combinations(range(n), 4):
        if tuple(int(k in places) for k in range(n)) in words:
            for signs in itertools.product((1, -1), repeat=4):
                told = dict(zip(places, signs))
                found.append(tuple(told.get(k, 0) for k in range(n)))
    return tuple(sorted(found))


def slow_parts(roots):
    """Return the parts, by walking from root to root."""
    left = set(roots)
    parts = []
    while left:
        waiting = [left.pop()]
        many = 0
        while waiting:
            root = waiting.pop()
            many += 1
            near = {other for other in left if sum(a * b for a, b in zip(root, other))}
            left -= near
            waiting.extend(near)
        parts.append(many)
    return tuple(sorted(parts, reverse=True))


class ThetaOfCodes(unittest.TestCase):
    def test_counting(self):
        for code, n in CODES:
            self.assertEqual(theta_of_code(code, n, 5), counted_theta(code, n, 5))

    def test_forms(self):
        size = 60
        four = slow.eisenstein(4, size)
        square = slow.series_product(four, four)
        cube = slow.series_product(square, four)
        delta = slow.taus(size - 1)
        self.assertEqual(theta_of_code(SMALL, 8, size), four)
        self.assertEqual(theta_of_code(TWICE, 16, size), square)
        self.assertEqual(theta_of_code(pair_code(16), 16, size), square)
        for code, first in ((THRICE, 720), (MIXED, 720), (pair_code(24), 1104), (golay_code(), 48)):
            told = theta_of_code(code, 24, size)
            self.assertEqual(told[1], first)
            self.assertEqual(told, tuple(a + (first - 720) * b for a, b in zip(cube, delta)))
            words = [word for word in slow.code_words(code, 24) if sum(word) == 4]
            self.assertEqual(first, 48 + 16 * len(words))

    def test_lengths(self):
        told = theta_of_code(SMALL, 8, 400)
        self.assertEqual(told, slow.eisenstein(4, 400))
        for size in (1, 2, 3, 17):
            self.assertEqual(theta_of_code(SMALL, 8, size), told[:size])

    def test_errors(self):
        for value in NO_CODES:
            malformed(self, theta_of_code, value, 3, 5)
            malformed(self, theta_of_code, value, 3, None)
        for value in NO_CODE_LENGTHS:
            malformed(self, theta_of_code, (), value, 5)
        for value in NO_LENGTHS:
            malformed(self, theta_of_code, SMALL, 8, value)
            # Malformed stands ahead of Refused.
            malformed(self, theta_of_code, (), 8, value)
        for code, n in ODD_CODES:
            refused(self, "even", theta_of_code, code, n, 5)


# Codes that are not doubly even, or not self-dual, or neither.
ODD_CODES = (
    ((), 1), ((), 8), (((1, 1),), 2), (((1, 1, 1, 1),), 4), (((1, 1, 0, 0), (0, 0, 1, 1)), 4), (SMALL[:3], 8),
    (tuple(word[:7] for word in SMALL[:3]), 7), (code_of(SMALL + ((1,) + (0,) * 7,), 8), 8),
    (code_of([(1, 1, 0, 0, 0, 0, 0, 0), (0, 0, 1, 1, 0, 0, 0, 0), (0, 0, 0, 0, 1, 1, 0, 0), (0,) * 6 + (1, 1)], 8), 8),
    (tuple(tuple(int(i == j) for j in range(24)) for i in range(24)), 24), (golay_code()[:11], 24))


class Roots(unittest.TestCase):
    def test_roots(self):
        for code, n in CODES:
            self.assertEqual(roots_of_code(code, n), slow_roots(code, n))

    def test_all_rows_of_the_small_code(self):
        words = slow.code_words(SMALL, 8)
        told = [x for x in itertools.product((-2, -1, 0, 1, 2), repeat=8)
                if sum(a * a for a in x) == 4 and tuple(a % 2 for a in x) in words]
        self.assertEqual(roots_of_code(SMALL, 8), tuple(sorted(told)))

    def test_parts(self):
        for code, n in CODES:
            self.assertEqual(parts_of_roots(code, n), slow_parts(slow_roots(code, n)))
        self.assertEqual(parts_of_roots(TWICE, 16), (240, 240))
        self.assertEqual(parts_of_roots(pair_code(16), 16), (480,))
        self.assertEqual(parts_of_roots(MIXED, 24), (480, 240))
        self.assertEqual(parts_of_roots(golay_code(), 24), (2,) * 24)

    def test_places_exchanged(self):
        chance = random.Random(146)
        for code, n in CODES:
            places = list(range(n))
            chance.shuffle(places)
            moved = code_of([tuple(word[at] for at in places) for word in code], n)
            self.assertEqual(parts_of_roots(moved, n), parts_of_roots(code, n))
            self.assertEqual(theta_of_code(moved, n, 4), theta_of_code(code, n, 4))
            self.assertEqual(roots_of_code(moved, n), slow_roots(moved, n))

    def test_errors(self):
        for function in (roots_of_code, parts_of_roots):
            for value in NO_CODES:
                malformed(self, function, value, 3)
            for value in NO_CODE_LENGTHS:
                malformed(self, function, (), value)
            for code, n in ODD_CODES:
                refused(self, "even", function, code, n)


class Tables(unittest.TestCase):
    def test_tables(self):
        for value in NO_TABLES:
            self.assertIs(is_table(value), False, value)
        for value in (((2,),), ((10 ** 6,),), ((2, 1), (1, 2)), ((2, -1), (-1, 4)), unit_table(8, 2), e_eight(),
                      ((10 ** 6, 999999), (999999, 10 ** 6)), unit_table(8, 10 ** 6)):
            self.assertIs(is_table(value), True)

    def test_by_minors(self):
        chance = random.Random(147)
        met = set()
        for _ in range(400):
            n = chance.randrange(2, 5)
            table = [[0] * n for _ in range(n)]
            for i in range(n):
                table[i][i] = chance.choice((2, 2, 4, 6, 3, 0))
                for j in range(i):
                    table[i][j] = table[j][i] = chance.randrange(-2, 3)
            table = tuple(map(tuple, table))
            fits = all(table[i][i] % 2 == 0 and table[i][i] > 0 for i in range(n))
            fits = fits and all(slow.determinant(tuple(row[:k] for row in table[:k])) > 0 for k in range(1, n + 1))
            self.assertIs(is_table(table), fits)
            met.add(fits)
        self.assertEqual(met, {True, False})

    def test_norm(self):
        chance = random.Random(148)
        for table in (((2,),), ((2, -1), (-1, 4)), e_eight(), unit_table(8, 10 ** 6)):
            for _ in range(30):
                x = tuple(chance.randrange(-9, 10) for _ in table)
                self.assertEqual(norm(table, x), slow_product(table, x, x))
                self.assertEqual(norm(table, x) % 2, 0)

    def test_e_eight(self):
        told = e_eight()
        pairs = ((0, 1), (1, 2), (2, 3), (3, 4), (4, 5), (5, 6), (2, 7))
        for i in range(8):
            for j in range(8):
                joined = (i, j) in pairs or (j, i) in pairs
                self.assertEqual((told[i][j], type(told[i][j])), (2 if i == j else -1 if joined else 0, int))
        self.assertEqual(slow.determinant(told), 1)


class ShortRows(unittest.TestCase):
    def test_by_trying(self):
        chance = random.Random(149)
        done = 0
        while done < 120:
            n = chance.randrange(1, 4)
            base = [[chance.randrange(-3, 4) for _ in range(n)] for _ in range(n)]
            table = tuple(tuple(2 * sum(a * b for a, b in zip(v, w)) for w in base) for v in base)
            if not slow.determinant(table):
                continue
            most = chance.randrange(0, 25)
            told = short_rows(table, most)
            self.assertEqual(told, slow_rows(table, most))
            theta = theta_of_table(table, most // 2 + 1)
            norms = [0] + [slow_product(table, x, x) for x in told]
            self.assertEqual(theta, tuple(norms.count(2 * m) for m in range(most // 2 + 1)))
            done += 1

    def test_four_to_six(self):
        chance = random.Random(150)
        for n, most in ((4, 6), (5, 4), (6, 4)):
            table = tuple(tuple(2 if i == j else -1 if abs(i - j) == 1 else 0 for j in range(n)) for i in range(n))
            told = slow_rows(table, most)
            self.assertEqual(short_rows(table, most), told)
            self.assertEqual(sum(1 for x in told if slow_product(table, x, x) == 2), n * (n + 1))
            # The rows of a moved table are those of the first one, told in another basis.
            moved, rows = moved_table(table, chance, 60, 3)
            images = {tuple(sum(c * row[k] for c, row in zip(x, rows)) for k in range(n)) for x in short_rows(moved, most)}
            self.assertEqual(images, set(told))

    def test_askew(self):
        chance = random.Random(151)
        for _ in range(12):
            moved, rows = moved_table(e_eight(), chance, 500, 6)
            told = short_rows(moved, 4)
            self.assertEqual(len(told), 240 + 2160)
            self.assertEqual([slow_product(moved, x, x) for x in told], [2] * 240 + [4] * 2160)
            self.assertEqual((list(told[:240]), list(told[240:])), (sorted(told[:240]), sorted(told[240:])))
            self.assertEqual(len(set(told)), 2400)
            self.assertEqual(theta_of_table(moved, 3), (1, 240, 2160))

    def test_pairs_that_are_small_but_askew(self):
        # No item of the diagonal falls by a row less a multiple of another one, but the sum of all three is short.
        for size in (1000, 10 ** 6 - 2):
            table = ((size, 2 - size // 2, -size // 2), (2 - size // 2, size, -size // 2), (-size // 2, -size // 2, size))
            self.assertTrue(is_table(table))
            told = short_rows(table, 40)
            self.assertEqual(told, tuple(sorted(
                ((c, c, c) for c in range(-3, 4) if c), key=lambda x: (slow_product(table, x, x), x))))

    def test_e_eight(self):
        told = theta_of_table(e_eight(), 4)
        self.assertEqual(told, (1, 240, 2160, 6720))
        self.assertEqual(told, tuple(slow.eisenstein(4, 4)))
        self.assertEqual(len(short_rows(e_eight(), 3)), 240)
        self.assertEqual(len(short_rows(e_eight(), 6)), 9120)

    def test_bounds(self):
        self.assertEqual(short_rows(((2,),), 0), ())
        self.assertEqual(short_rows(((2,),), 1), ())
        self.assertEqual(short_rows(((2,),), 40), ((-1,), (1,), (-2,), (2,), (-3,), (3,), (-4,), (4,)))
        self.assertEqual(theta_of_table(((2,),), 1), (1,))
        self.assertEqual(theta_of_table(((2,),), 21), tuple(1 if m == 0 else 2 * int(math.isqrt(m) ** 2 == m)
                                                            for m in range(21)))
        self.assertEqual(short_rows(unit_table(8, 10 ** 6), 40), ())
        # 9120 rows to the norm 6, 17520 more with the norm 8.
        self.assertEqual(slow.eisenstein(4, 5)[4], 17520)
        for most in (8, 20, 40):
            refused(self, "many", short_rows, e_eight(), most)
        for size in (5, 11, 21):
            refused(self, "many", theta_of_table, e_eight(), size)

    def test_just_as_many(self):
        # Ways of k squares: tables with 2 on the diagonal, whose rows to the norm 2 m are counted by ways.
        ways = [1] + [0] * 20
        for n in range(1, 9):
            ways = [sum(ways[m - x * x] for x in range(-4, 5) if x * x <= m) for m in range(21)]
            table = unit_table(n, 2)
            many = 0
            for m in range(1, 21):
                many += ways[m]
                if many > 20000:
                    refused(self, "many", short_rows, table, 2 * m)
                    refused(self, "many", theta_of_table, table, m + 1)
                    break
                if m in (1, 4, 9, 20) or many > 12000:
                    self.assertEqual(len(short_rows(table, 2 * m)), many)
                    self.assertEqual(theta_of_table(table, m + 1), tuple(ways[:m + 1]))

    def test_twenty_thousand(self):
        items = (2, 2, 2, 2, 4, 14, 14, 16)
        table = tuple(tuple(items[i] if i == j else 0 for j in range(8)) for i in range(8))
        self.assertEqual(len(short_rows(table, 38)), 20000)
        self.assertEqual(sum(theta_of_table(table, 20)), 20001)
        refused(self, "many", short_rows, table, 40)
        refused(self, "many", theta_of_table, table, 21)

    def test_errors(self):
        for value in NO_TABLES:
            malformed(self, short_rows, value, 2)
            malformed(self, short_rows, value, None)
            malformed(self, theta_of_table, value, 2)
        for value in (None, True, False, -1, 41, 10 ** 30, "2", (2,), [2], slow.nested(60)):
            malformed(self, short_rows, e_eight(), value)
        for value in (None, True, False, 0, -1, 22, 400, 10 ** 30, "2", (2,), slow.nested(60)):
            malformed(self, theta_of_table, e_eight(), value)


if __name__ == "__main__":
    unittest.main()
