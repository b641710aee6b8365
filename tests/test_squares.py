"""Points 3.1 to 3.5."""

import itertools
import math
import random
import signal
import unittest

from classledger.proofs import prime_paper
from classledger.squares import (
    four_squares, square_roots, three_squares, told_pairs, two_squares, ways_eight, ways_four, ways_three, ways_two)
from tests import slow
from tests.test_primes import refused


class Roots(unittest.TestCase):
    def test_every_small_modulus(self):
        for m in range(1, 330):
            told = {}
            for b in range(m):
                told.setdefault(b * b % m, []).append(b)
            for a in range(m):
                self.assertEqual(square_roots(a, m), tuple(told.get(a, ())), (a, m))

    def test_powers(self):
        for m in (512, 1024, 2048, 729, 2187, 625, 3125, 343, 2401, 1331, 17 ** 3, 41 ** 2, 2 ** 5 * 3 ** 4, 73 ** 2):
            told = {}
            for b in range(m):
                told.setdefault(b * b % m, []).append(b)
            for a in range(0, m, 1 if m < 1100 else 3):
                self.assertEqual(square_roots(a, m), tuple(told.get(a, ())), (a, m))

    def test_any_integer(self):
        self.assertEqual(square_roots(17, 1), (0,))
        self.assertEqual(square_roots(-3, 1), (0,))
        self.assertEqual(square_roots(-1, 5), (2, 3))
        self.assertEqual(square_roots(10 ** 40, 7), square_roots(10 ** 40 % 7, 7))

    def test_great(self):
        for l in (999999999989, 10 ** 9 + 7, 10 ** 9 + 9, 998244353, 104857601, 2 ** 31 - 1):
            for b in (2, 12345, l - 3):
                self.assertEqual(square_roots(b * b, l), tuple(sorted((b, l - b))))
            nonsquare = [a for a in range(2, 60) if pow(a, (l - 1) // 2, l) == l - 1][0]
            self.assertEqual(square_roots(nonsquare, l), ())
        for m in (2 ** 39, 3 ** 25, 7 ** 14, 2 ** 10 * 3 ** 8 * 5 ** 4 * 7, 10 ** 12, 998243 ** 2, 2 * 707 ** 4):
            for b in (1, 5, 11, 10 ** 6 + 1, 210):
                told = square_roots(b * b, m)
                self.assertIn(b % m, told)
                self.assertEqual(list(told), sorted(set(told)))
                self.assertTrue(all(0 <= x < m and (x * x - b * b) % m == 0 for x in told))
                self.assertTrue(all(m - x in told for x in told if x))

    def test_numbers_of_great_roots(self):
        self.assertEqual(len(square_roots(1, 2 ** 39)), 4)
        self.assertEqual(len(square_roots(1, 8 * 3 * 5 * 7 * 11 * 13 * 17 * 19 * 23 * 29)), 4 * 2 ** 9)
        self.assertEqual(len(square_roots(0, 10 ** 8)), 10 ** 4)
        self.assertEqual(square_roots(0, 10 ** 8), tuple(range(0, 10 ** 8, 10 ** 4)))
        self.assertEqual(len(square_roots(81 * 4, 3 ** 20)), 18)

    def test_bounds(self):
        self.assertEqual(square_roots(9, 10 ** 12)[0], 3)
        refused(self, "large", square_roots, 9, 10 ** 12 + 1)
        refused(self, "many", square_roots, 0, 10 ** 12)
        refused(self, "many", square_roots, 0, 10001 ** 2)
        refused(self, "many", square_roots, 0, 10 ** 8 * 9)
        refused(self, "large", square_roots, 0, 10 ** 14)
        # 1000 roots modulo 10^6, and two for each other prime: 8000, and 16000.
        self.assertEqual(len(square_roots(1000000 * 463 ** 2, 10 ** 6 * 3 * 7 * 11)), 8000)
        refused(self, "many", square_roots, 1000000 * 463 ** 2, 10 ** 6 * 3 * 7 * 11 * 13)
        # There are many roots modulo 10^10, none modulo 3.
        self.assertEqual(square_roots(2 * 10 ** 10, 3 * 10 ** 10), ())


class NoRoots(unittest.TestCase):
    """Moduli so great that only an answer that does not walk over them comes in time."""

    def setUp(self):
        def late(*_):
            raise AssertionError("no answer in time")
        self.addCleanup(signal.signal, signal.SIGALRM, signal.signal(signal.SIGALRM, late))
        self.addCleanup(signal.alarm, 0)
        signal.alarm(60)

    def test_powers_of_two(self):
        for k in (6, 20, 24, 38, 39):
            for e in range(k):
                for u in (1, 3, 5, 7, 2 ** 40 + 5, -3):
                    if e % 2 or u % min(8, 2 ** (k - e)) != 1:
                        self.assertEqual(square_roots(u * 2 ** e, 2 ** k), (), (u, e, k))

    def test_powers_of_odd_primes(self):
        for l, k in ((3, 25), (5, 17), (7, 14), (101, 5), (97, 6), (9973, 3), (999983, 2)):
            nonsquare = [a for a in range(2, l) if pow(a, (l - 1) // 2, l) == l - 1][0]
            for e in range(k):
                for u in (1, 2, nonsquare, nonsquare - l):
                    if e % 2 or u in (nonsquare, nonsquare - l):
                        self.assertEqual(square_roots(u * l ** e, l ** k), (), (u, l, e, k))
                        self.assertEqual(square_roots(u * l ** e + 7 * l ** k, l ** k), ())

    def test_beside_many_roots(self):
        # Modulo one part there are very many roots, modulo another one none.
        for a, m in ((5 * 2 ** 36, 2 ** 36 * 7), (2 * 10 ** 10, 5 * 10 ** 10), (12, 2 ** 20 * 3 ** 12),
                     (3 ** 11, 2 * 3 ** 12), (2 ** 18 * 3 ** 11, 2 ** 18 * 3 ** 12), (2 ** 17 * 3 ** 12, 2 ** 18 * 3 ** 12)):
            self.assertEqual(square_roots(a, m), (), (a, m))

    def test_pairs(self):
        for d, m in ((2, 2 ** 39), (2, 2 ** 38), (1, 2 ** 39), (3, 101 ** 5), (3, 3 ** 25), (1, 3 ** 25), (5, 7 ** 13),
                     (2, 5 ** 17), (10, 10 ** 12), (7, 9973 ** 3), (2 ** 19, 2 ** 39), (3 ** 11, 3 ** 24)):
            told = [(math.isqrt(m - d * y * y), y) for y in range(math.isqrt(m // d) + 1)]
            self.assertEqual(told_pairs(d, m), tuple(sorted((x, y) for x, y in told if x * x + d * y * y == m)))


class Pairs(unittest.TestCase):
    def walk(self, d, m):
        """Return all pairs by walking over all y, for those x that fit."""
        found = []
        for y in range(slow.floor_root(m // d) + 1):
            x = slow.floor_root(m - d * y * y)
            if x * x + d * y * y == m:
                found.append((x, y))
        return tuple(sorted(found))

    def test_small(self):
        for d in range(1, 40):
            for m in range(1, 260):
                told = tuple((x, y) for x in range(17) for y in range(17) if x * x + d * y * y == m)
                self.assertEqual(told_pairs(d, m), told, (d, m))

    def test_common_divisors(self):
        chance = random.Random(2)
        for _ in range(400):
            d = chance.choice((1, 2, 3, 4, 7, 8, 12, 16, 36, 48, 75, 144, 900))
            m = chance.choice((1, 4, 9, 36, 144, 900)) * chance.randint(1, 2000)
            self.assertEqual(told_pairs(d, m), self.walk(d, m), (d, m))

    def test_great(self):
        chance = random.Random(4)
        for _ in range(40):
            d = chance.choice((1, 2, 3, 5, 999, 36 ** 2, 997002))
            x, y = chance.randint(0, 10 ** 4), chance.randint(0, min(3000, int((10 ** 9 // d) ** 0.5)))
            m = x * x + d * y * y or 1
            self.assertEqual(told_pairs(d, m), self.walk(d, m), (d, m))

    def test_sixteen_ways(self):
        m = 5 ** 2 * 13 * 17 * 29 * 37
        self.assertEqual(told_pairs(1, m), self.walk(1, m))
        self.assertEqual(len(told_pairs(1, m)), 3 * 2 ** 4)

    def test_edges(self):
        self.assertEqual(told_pairs(1, 1), ((0, 1), (1, 0)))
        self.assertEqual(told_pairs(2, 1), ((1, 0),))
        self.assertEqual(told_pairs(10 ** 30, 4), ((2, 0),))
        self.assertEqual(told_pairs(1, 10 ** 12)[0], (0, 10 ** 6))
        self.assertEqual(told_pairs(998001, 998001 * 10 ** 6), self.walk(998001, 998001 * 10 ** 6))
        self.assertEqual(told_pairs(10 ** 12, 10 ** 12), ((0, 1), (10 ** 6, 0)))
        refused(self, "large", told_pairs, 1, 10 ** 12 + 1)
        refused(self, "large", told_pairs, 10 ** 20, 10 ** 12 + 1)


def count_ways(k, most):
    """Return the numbers of ways of k squares for all integers to a bound, by adding one square after the other."""
    counts = [1] + [0] * most
    for _ in range(k):
        counts = [sum(counts[n - z * z] for z in range(-n, n + 1) if z * z <= n) for n in range(most + 1)]
    return counts


class Ways(unittest.TestCase):
    def test_counts(self):
        for function, k in ((ways_two, 2), (ways_three, 3), (ways_four, 4), (ways_eight, 8)):
            for n, many in enumerate(count_ways(k, 150)):
                self.assertEqual(function(n), many, (k, n))

    def test_great_two_and_three(self):
        for n in (999, 1000, 5 * 13 * 17, 2 * 49 * 25, 7 ** 3):
            r = slow.floor_root(n)
            rows = list(itertools.product(range(-r, r + 1), repeat=2))
            self.assertEqual(ways_two(n), sum(x * x + y * y == n for x, y in rows))
            told = sum(slow.is_square(n - x * x - y * y) * (1 if x * x + y * y == n else 2)
                       for x, y in rows if x * x + y * y <= n)
            self.assertEqual(ways_three(n), told)

    def test_divisor_sums(self):
        for n in (2 ** 10, 3 ** 7, 5040, 9973, 30030, 65536 * 3):
            d = slow.divisors(n)
            self.assertEqual(ways_two(n), 4 * sum({1: 1, 3: -1}.get(k % 4, 0) for k in d))
            self.assertEqual(ways_four(n), 8 * sum(k for k in d if k % 4))
            self.assertEqual(ways_eight(n), 16 * sum(k ** 3 * (-1) ** (n + k) for k in d))

    def test_bounds(self):
        # The odd divisors of 10^12 are the 13 powers of 5, all 1 modulo 4.
        self.assertEqual(ways_two(10 ** 12), 4 * 13)
        self.assertEqual(ways_four(10 ** 12), 24 * (5 ** 13 - 1) // 4)
        self.assertEqual(ways_eight(10 ** 12), 16 * ((8 ** 13 - 1) // 7 - 2) * ((125 ** 13 - 1) // 124))
        self.assertEqual(ways_three(10 ** 6), sum(ways_two(10 ** 6 - z * z) for z in range(-1000, 1001)))
        for function in (ways_two, ways_four, ways_eight):
            refused(self, "large", function, 10 ** 12 + 1)
        refused(self, "large", ways_three, 10 ** 6 + 1)


class Papers(unittest.TestCase):
    def check_squares(self, n, paper, many):
        self.assertEqual(len(paper), many + 1)
        items = paper[1:]
        self.assertEqual(sum(x * x for x in items), n)
        self.assertEqual(list(items), sorted(items))
        self.assertGreaterEqual(items[0], 0)

    def test_two(self):
        for n in list(range(1, 1200)) + [10 ** 6 - k for k in range(60)]:
            paper = two_squares(n)
            least = [x for x in range(slow.floor_root(n) + 1) if slow.floor_root(n - x * x) ** 2 == n - x * x]
            odd = [(l, k) for l, k in slow.factors(n) if l % 4 == 3 and k % 2]
            if least:
                self.assertEqual(paper[:2], ("squares", least[0]))
                self.check_squares(n, paper, 2)
                self.assertEqual(odd, [])
            else:
                self.assertEqual(paper, ("none",) + odd[0] + (("small",),))

    def test_great_two(self):
        l = 1000003
        self.assertEqual(two_squares(2 * l), ("none", l, 1, prime_paper(l)))
        self.assertEqual(two_squares(7 ** 3 * l)[:3], ("none", 7, 3))
        self.assertEqual(two_squares(999983 ** 2), ("squares", 0, 999983))
        n = 5 * 13 * 17 * 29 * 37 * 41
        x = min(x for x in range(slow.floor_root(n) + 1) if slow.floor_root(n - x * x) ** 2 == n - x * x)
        self.assertEqual(two_squares(n)[1], x)
        self.check_squares(10 ** 12, two_squares(10 ** 12), 2)
        self.check_squares(999999999989, two_squares(999999999989), 2)

    def test_three(self):
        for n in list(range(1, 1200)) + [4 ** 9 * k for k in range(1, 40)] + [10 ** 12 - k for k in range(40)]:
            paper = three_squares(n)
            left, k = n, 0
            while left % 4 == 0:
                left, k = left // 4, k + 1
            if left % 8 == 7:
                self.assertEqual(paper, ("none", k, left // 8))
            else:
                self.assertEqual(paper[0], "squares")
                self.check_squares(n, paper, 3)

    def test_four(self):
        numbers = list(range(1, 1200)) + [4 ** 9 * k for k in range(1, 40)] + [10 ** 12 - k for k in range(40)]
        for n in numbers:
            paper = four_squares(n)
            self.assertEqual(paper[0], "squares")
            self.check_squares(n, paper, 4)

    def test_hard_ones(self):
        # Few sums have these, because 4 divides them often.
        for n in (2 * 4 ** 19, 4 ** 19, 3 * 4 ** 19, 6 * 4 ** 18, 7 * 4 ** 18, 15 * 4 ** 17):
            self.check_squares(n, four_squares(n), 4)
            if n % 7 and n % 15:
                self.check_squares(n, three_squares(n), 3)

    def test_bounds(self):
        for function in (two_squares, three_squares, four_squares):
            function(10 ** 12)
            for n in (10 ** 12 + 1, 3 * 10 ** 12, 7 * 10 ** 12, 10 ** 40):
                refused(self, "large", function, n)


if __name__ == "__main__":
    unittest.main()
