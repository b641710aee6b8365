"""Points 2.5 to 2.8, 3.3 and 3.4: the judges of the papers of primes, of factors and of squares."""

import functools
import itertools
import math
import unittest

from classledger.curves import points_at
from classledger.orders import point_count
from classledger.primechecker import takes_factors, takes_four, takes_prime, takes_three, takes_two
from classledger.proofs import factors_paper, prime_paper
from classledger.squares import four_squares, three_squares, two_squares
from tests import slow
from tests.papers import NO_PAPERS, bends, shorter, wrong_factors, wrong_prime
from tests.test_primes import CARMICHAEL
from tests.test_proofs import GREAT_PRIMES

SMALL = ("small",)


def added(n, a, P, Q):
    """Return the sum of two points modulo a prime."""
    if not P or not Q:
        return P or Q
    (x, y), (z, w) = P, Q
    if x == z and (y + w) % n == 0:
        return ()
    s = (3 * x * x + a) * pow(2 * y, -1, n) if P == Q else (w - y) * pow(z - x, -1, n)
    u = (s * s - x - z) % n
    return (u, (s * (x - u) - y) % n)


def multiplied(n, a, k, P):
    """Return the multiple by k of a point modulo a prime."""
    result = ()
    while k:
        if k & 1:
            result = added(n, a, result, P)
        P = added(n, a, P, P)
        k >>= 1
    return result


def stands(n, a):
    """Tell whether an odd n stands the round by a, by the words of point 2.2."""
    s = 0
    while (n - 1) % 2 ** (s + 1) == 0:
        s += 1
    d = (n - 1) // 2 ** s
    return a ** d % n == 1 or any(a ** (2 ** i * d) % n == n - 1 for i in range(s))


def is_likely(n):
    """Tell a great prime by some powers, well enough for the tests."""
    return all(n % p for p in (2, 3, 5, 7, 11, 13)) and all(pow(a, n - 1, n) == 1 for a in (2, 3, 5, 7))


@functools.lru_cache
def chain_of_curves(most):
    """Return pairs of a prime to about 10^most and a paper of the kind "curve", each resting on the one before."""
    q, paper = 1009, SMALL
    told = []
    while q < 10 ** (most - 2):
        # A curve y^2 = x^3 + a x over a prime that is 3 modulo 4 has one point more than the prime.
        k = min(q, 10 ** most // q) // 20 + 1
        while not (math.gcd(6, 4 * k * q - 1) == 1 and is_likely(4 * k * q - 1)):
            k += 1
        n = 4 * k * q - 1
        x, P = 1, ()
        while not P:
            x += 1
            y = pow(x ** 3 + x, (n + 1) // 4, n)
            if (y * y - x ** 3 - x) % n == 0:
                P = multiplied(n, 1, 4 * k, (x, y))
        paper = ("curve", 1, P[0], P[1], q, paper)
        told.append((n, paper))
        q = n
    return told


@functools.lru_cache
def chain_of_powers(most):
    """Return pairs of a prime to about 10^most and a paper of the kind "powers", each resting on the one before."""
    q, paper = 1009, SMALL
    told = []
    while q < 10 ** (most - 2):
        k = min(q, 10 ** most // q) // 4 + 1
        while not is_likely(2 * k * q + 1):
            k += 1
        n = 2 * k * q + 1
        a = 2
        while math.gcd(pow(a, 2 * k, n) - 1, n) != 1:
            a += 1
        paper = ("powers", ((q, a, paper),))
        told.append((n, paper))
        q = n
    return told


def curve_paper(n):
    """Return a paper of the kind "curve" whose q is the number of the points of a curve over n, counted."""
    least = next(r for r in range(n) if r ** 4 >= n)
    for a in range(1, n):
        for b in range(1, 6):
            if (4 * a ** 3 + 27 * b * b) % n == 0:
                continue
            q = point_count((n, a, b))
            if slow.is_prime(q) and q > (least + 1) ** 2:
                for x in range(n):
                    points = points_at((n, a, b), x)
                    if points:
                        return ("curve", a, points[0][0], points[0][1], q, prime_paper(q))
    raise AssertionError("no curve")


class Primes(unittest.TestCase):
    def takes(self, n, paper):
        self.assertIs(takes_prime(n, paper), True, (n, paper))

    def bars(self, n, paper):
        self.assertIs(takes_prime(n, paper), False, (n, paper))

    def test_papers_of_the_maker(self):
        for n in list(range(2, 1500)) + list(GREAT_PRIMES) + list(CARMICHAEL) + [10 ** 20 - 11, 10 ** 20, 999983]:
            paper = prime_paper(n)
            self.takes(n, paper)
            for m in (n - 2, n + 1, n + 2, 2 * n, n * n):
                if m >= 2 and paper[0] != "small" and (paper[0] != "factor" or m % paper[1] or m == paper[1]):
                    self.bars(m, paper)

    def test_small(self):
        for n in list(range(2, 3000)) + list(range(999900, 10 ** 6 + 200)):
            self.assertIs(takes_prime(n, SMALL), slow.is_prime(n) and n <= 10 ** 6)
        self.bars(2 ** 61 - 1, SMALL)
        self.bars(10 ** 400, SMALL)

    def test_factor(self):
        for n in range(2, 120):
            for d in range(-3, n + 5):
                self.assertIs(takes_prime(n, ("factor", d)), 2 <= d < n and n % d == 0)
        self.takes(10 ** 400, ("factor", 10 ** 399))
        self.bars(10 ** 400 - 1, ("factor", 10))
        self.bars(4, ("factor", True))

    def test_witness(self):
        for n in range(2, 130):
            for a in range(-2, n + 4):
                fits = n % 2 == 1 and n >= 3 and 2 <= a <= n - 1 and not stands(n, a)
                self.assertIs(takes_prime(n, ("witness", a)), fits, (n, a))
        for n in CARMICHAEL:
            self.takes(n, ("witness", 2) if not takes_prime(n, ("witness", 3)) else ("witness", 3))
        n = (10 ** 200 + 357) * (10 ** 199 + 153)
        self.takes(n, ("witness", 2))
        self.takes(n, ("witness", n - 2))

    def test_powers(self):
        for n, paper in chain_of_powers(395):
            self.takes(n, paper)
            self.assertLess(n, 10 ** 400)
            ((q, a, below),) = paper[1]
            for other in (a - n, a + n, a - 10 ** 50 * n):
                self.takes(n, ("powers", ((q, other, below),)))
            for other in (0, 1, -1, n, n + 1, n - 1, 1 - 2 * n, pow(a, q, n)):
                self.bars(n, ("powers", ((q, other, below),)))
            self.bars(n, ("powers", ((q + 2, a, below),)))
            self.bars(n + 2 * q, paper)

    def test_each_condition_of_powers(self):
        # 1000081 - 1 = 2^4 3^3 5 463
        n = 1000081
        self.assertEqual(slow.factors(n - 1), ((2, 4), (3, 3), (5, 1), (463, 1)))
        rows = tuple((q, next(a for a in range(2, 99) if pow(a, (n - 1) // q, n) != 1), SMALL)
                     for q in (2, 3, 5, 463))
        self.takes(n, ("powers", rows))
        parts = {2: 16, 3: 27, 5: 5, 463: 463}
        for many in range(5):
            for told in itertools.combinations(rows, many):
                fits = math.prod(parts[q] for q, _, _ in told) ** 2 > n
                self.assertIs(takes_prime(n, ("powers", told)), fits)
        for told in itertools.permutations(rows):
            self.assertIs(takes_prime(n, ("powers", told)), told == rows)
        for at in range(4):
            self.bars(n, ("powers", rows[:at] + (rows[at],) + rows[at:]))
            q, a, _ = rows[at]
            for row in ((q, a, ("factor", 2)), (q, a, ("witness", 2)), (q, a, ("powers", ())), (q, pow(a, q, n), SMALL),
                        (q, n * a, SMALL), (7, a, SMALL), (-q, a, SMALL), (0, a, SMALL), (1, a, SMALL), (q, a), (q, a, 1),
                        (q, a, SMALL, SMALL), [q, a, SMALL], (q, str(a), SMALL), (str(q), a, SMALL), (float(q), a, SMALL)):
                self.bars(n, ("powers", rows[:at] + (row,) + rows[at + 1:]))
        # A composite q in the place of its factors.
        a = next(a for a in range(2, 999) if math.gcd(pow(a, (n - 1) // 2315, n) - 1, n) == 1)
        for paper in (SMALL, ("factor", 5), ("powers", ()), ("powers", ((2, 3, SMALL),))):
            self.bars(n, ("powers", rows[:2] + ((2315, a, paper),)))

    def test_the_square_of_the_product(self):
        # The product of all q^e is just the root of n less 1, and then above it.
        for n, q in ((5, 2), (17, 2), (257, 2), (65537, 2), (37, 2), (101, 5), (19, 3), (163, 3), (3, 2)):
            e = dict(slow.factors(n - 1))[q]
            a = next(a for a in range(1, n) if pow(a, n - 1, n) == 1 and math.gcd(pow(a, (n - 1) // q, n) - 1, n) == 1)
            self.assertIs(takes_prime(n, ("powers", ((q, a, SMALL),))), q ** (2 * e) > n)
        # 11 with q = 5: 25 is above 11, and 7 with q = 2: 4 is not.
        self.takes(11, ("powers", ((5, 2, SMALL),)))
        self.bars(7, ("powers", ((2, 3, SMALL),)))

    def test_composites_have_no_powers(self):
        for n in range(2, 200):
            rows = [(q, a, SMALL) for q, _ in slow.factors(n - 1) for a in range(n)] if n > 2 else []
            for row in rows:
                paper = ("powers", (row,))
                self.assertIs(takes_prime(n, paper), wrong_prime(n, paper) is None)
                if not slow.is_prime(n):
                    self.bars(n, paper)

    def test_curves(self):
        for n, paper in chain_of_curves(395):
            self.takes(n, paper)
            _, a, x, y, q, below = paper
            for items in ((a + n, x, y, q, below), (a, x + n, y, q, below), (a, x, y - n, q, below),
                          (a, x - n, y, q, below), (a, x, y + n, q, below), (a - n, x, y, q, below),
                          (a, x, y + 1, q, below), (a, x + 1, y, q, below), (a + 1, x, y, q, below),
                          (a, x, y, q + 2, below), (a, x, y, 2 * q, below), (a, x, y, -q, below), (a, x, y, 0, below),
                          (a, x, y, 1, below), (a, x, y, q * q, below), (a, x, y, q * n, SMALL)):
                self.bars(n, ("curve",) + items)
            # The negative of the point serves as well.
            self.takes(n, ("curve", a, x, n - y, q, below))
            self.bars(n + 2, paper)
            self.bars(3 * n, paper)

    def test_each_condition_of_curves(self):
        for n in (1009, 1013, 5003, 10007, 99991, 1000003):
            paper = curve_paper(n)
            self.takes(n, paper)
            _, a, x, y, q, below = paper
            for other in (("factor", 2), ("powers", ()), None, ("witness", 3), ("small", 1)):
                self.bars(n, ("curve", a, x, y, q, other))
            for k in (2, 3, 5):
                self.bars(n, ("curve", a, x, y, k * q, SMALL))
            for m in (2 * n, 3 * n, 5 * n, n * n, n + 2, n - 2):
                self.bars(m, paper)

    def test_small_primes_by_curves(self):
        told = 0
        for n in range(2, 42):
            least = next(r for r in range(n + 1) if r ** 4 >= n)
            for a, x, y in itertools.product(range(n), repeat=3):
                if n % 2 == 0 or n % 3 == 0:
                    self.bars(n, ("curve", a, x, y, 13, SMALL))
                    continue
                if not slow.is_prime(n):
                    for q in (11, 13, 17):
                        self.bars(n, ("curve", a, x, y, q, SMALL))
                    continue
                b = y * y - x ** 3 - a * x
                order = 0
                if (4 * a ** 3 + 27 * b * b) % n:
                    order, T = 1, (x, y)
                    while T:
                        order, T = order + 1, added(n, a, T, (x, y))
                for q in {order, 7, 11, 13} - {0, 1}:
                    fits = q == order and slow.is_prime(q) and q > (least + 1) ** 2
                    self.assertIs(takes_prime(n, ("curve", a, x, y, q, SMALL)), fits, (n, a, x, y, q))
                    if fits:
                        for items in ((a + n, x, y), (a, x + n, y), (a, x, y + n), (a - n, x, y), (a, x - n, y), (a, x, y - n)):
                            self.bars(n, ("curve",) + items + (q, SMALL))
                    told += fits
        self.assertGreater(told, 100)

    def test_singular(self):
        # y^2 = x^3 and y^2 = x^3 - 3 x + 2 are no curves, though their points are sums of points as well.
        for n in (101, 103, 1009, 10007):
            for a, x in ((0, 4), (n - 3, 2), (n - 3, 6)):
                for y in range(n):
                    if (4 * a ** 3 + 27 * (y * y - x ** 3 - a * x) ** 2) % n == 0:
                        for q in (n, n - 1, n + 1, 101, 103, 1009):
                            self.bars(n, ("curve", a, x, y, q, prime_paper(q)))

    def test_chains(self):
        (n, one), (m, two) = chain_of_powers(60)[-2:]
        self.takes(m, ("powers", ((n, two[1][0][1], one),)))
        self.bars(m, ("powers", ((n, two[1][0][1], SMALL),)))
        self.bars(n, two)
        self.bars(m, one)
        k, three = chain_of_curves(60)[-1]
        self.takes(k, three)
        self.bars(k, three[:5] + (one,))

    def test_bent(self):
        papers = [(7, SMALL), (91, ("factor", 7)), (91, ("witness", 2)), (1000003, prime_paper(1000003)),
                  (10 ** 9 + 7, prime_paper(10 ** 9 + 7)), (1009, curve_paper(1009)), chain_of_curves(30)[-1],
                  chain_of_powers(30)[-1]]
        for n, paper in papers:
            self.takes(n, paper)
            for bent in bends(paper):
                self.bars(n, bent)
            if paper[0] != "powers":
                for bent in shorter(paper):
                    self.bars(n, bent)
        for value in NO_PAPERS:
            for n in (2, 3, 4, 9, 1000003, 10 ** 400):
                self.assertIs(takes_prime(n, value), n < 10 and value == SMALL and n in (2, 3), (n, value))


class Factors(unittest.TestCase):
    def test_papers_of_the_maker(self):
        for n in list(range(1, 1000)) + [10 ** 20, 10 ** 20 - 11, 1000003 ** 3, (10 ** 9 + 7) * (10 ** 9 + 9)]:
            paper = factors_paper(n)
            self.assertIs(takes_factors(n, paper), True)
            for m in (n + 1, 2 * n, n * n + 1, n - 1):
                if m >= 1:
                    self.assertIs(takes_factors(m, paper), False)

    def test_each_condition(self):
        n = 2 ** 3 * 3 * 7 ** 2
        rows = ((2, 3, SMALL), (3, 1, SMALL), (7, 2, SMALL))
        self.assertIs(takes_factors(n, ("factors", rows)), True)
        for told in itertools.permutations(rows):
            self.assertIs(takes_factors(n, ("factors", told)), told == rows)
        for wrong in (rows[:2], rows[1:], rows + ((11, 1, SMALL),), rows + ((11, 0, SMALL),), rows[:1] + rows,
                      ((2, 2, SMALL), (2, 1, SMALL)) + rows[1:], ((1, 1, SMALL),) + rows, ((8, 1, SMALL),) + rows[1:],
                      ((2, 3, ("factor", 2)),) + rows[1:], ((2, 3, ("powers", ())),) + rows[1:],
                      rows[:1] + ((21, 1, SMALL), (7, 1, SMALL)), rows[:1] + ((7, 1, SMALL), (21, 1, SMALL)),
                      ((2, 3, SMALL), (3, 1, SMALL), (49, 1, SMALL)), ((-2, 3, SMALL),) + rows[1:], ((2, -3, SMALL),) + rows[1:],
                      ((2, 10 ** 30, SMALL),) + rows[1:], ((2, 4, SMALL),) + rows[1:], (), list(rows), rows[0]):
            self.assertIs(takes_factors(n, ("factors", wrong)), False, wrong)
        self.assertIs(takes_factors(1, ("factors", ())), True)
        self.assertIs(takes_factors(1, ("factors", ((2, 1, SMALL),))), False)
        self.assertIs(takes_factors(1, ("factors", ((2, 0, SMALL),))), False)

    def test_great(self):
        (m, one), (n, two) = chain_of_powers(190)[-2:]
        number = 2 ** 5 * m * n * n if 2 ** 5 * m * n * n <= 10 ** 400 else 2 ** 5 * m * n
        k = 2 if number % (n * n) == 0 else 1
        rows = ((2, 5, SMALL), (m, 1, one), (n, k, two))
        self.assertIs(takes_factors(number, ("factors", rows)), True)
        self.assertIs(takes_factors(number, ("factors", rows[:2] + ((n, k + 1, two),))), False)
        self.assertIs(takes_factors(number, ("factors", rows[:2] + ((n, k, one),))), False)
        self.assertIs(takes_factors(number, ("factors", ((2, 5, SMALL), (m * n, 1, one)))), False)

    def test_other_papers_of_primes(self):
        # The judge takes any papers of the primes, not those of the maker alone.
        n = 1009 * 10007
        paper = ("factors", ((1009, 1, curve_paper(1009)), (10007, 1, curve_paper(10007))))
        self.assertIs(takes_factors(n, paper), True)
        self.assertEqual(wrong_factors(n, factors_paper(n)), None)

    def test_bent(self):
        for n in (1, 12, 97, 1000003 * 4):
            paper = factors_paper(n)
            for bent in bends(paper):
                self.assertIs(takes_factors(n, bent), False, (n, bent))
            for bent in shorter(paper) if n < 1000 else ():
                self.assertIs(takes_factors(n, bent), False, (n, bent))
        for value in NO_PAPERS:
            for n in (1, 2, 12, 10 ** 400):
                self.assertIs(takes_factors(n, value), False)


def squares_of(n, many):
    """Return all rows of so many integers whose squares have the sum n."""
    most = slow.floor_root(n)
    return [row for row in itertools.product(range(-most, most + 1), repeat=many) if sum(x * x for x in row) == n]


class Squares(unittest.TestCase):
    def test_papers_of_the_makers(self):
        for n in list(range(1, 700)) + [10 ** 12, 10 ** 12 - 1, 999999999989, 4 ** 18 * 7, 3 ** 25, 9 * 10 ** 11]:
            for maker, judge in ((two_squares, takes_two), (three_squares, takes_three), (four_squares, takes_four)):
                paper = maker(n)
                self.assertIs(judge(n, paper), True, n)
                for m in (n + 1, n + 3) if paper[0] == "squares" else ():
                    self.assertIs(judge(m, paper), False, (n, m))

    def test_squares(self):
        for n in range(1, 30):
            for many, judge in ((2, takes_two), (3, takes_three), (4, takes_four)):
                told = squares_of(n, many)
                for row in told[:60]:
                    self.assertIs(judge(n, ("squares",) + row), True)
                    self.assertIs(judge(n, ("squares",) + row + (0,)), False)
                    self.assertIs(judge(n, ("squares",) + row[1:]), False)
                    self.assertIs(judge(n, ("squares", row)), False)
                    self.assertIs(judge(n + 1, ("squares",) + row), False)
                    self.assertIs(judge(n, ("square",) + row), False)
        self.assertIs(takes_two(2, ("squares", True, True)), False)
        self.assertIs(takes_three(1, ("squares", 1, 0, False)), False)
        self.assertIs(takes_four(10 ** 400, ("squares", 0, 0, 0, -10 ** 200)), True)

    def test_no_two_squares(self):
        for n in range(1, 400):
            bad = [(l, k) for l, k in slow.factors(n) if l % 4 == 3 and k % 2]
            for l in range(-3, 50):
                for k in range(-1, 7):
                    told = takes_two(n, ("none", l, k, SMALL))
                    self.assertIs(told, (l, k) in bad, (n, l, k))
            self.assertEqual(bad == [], bool(squares_of(n, 2)))

    def test_each_condition_of_no_two_squares(self):
        n = 3 ** 3 * 7 ** 2 * 5 * 11
        for l, k in ((3, 3), (11, 1)):
            self.assertIs(takes_two(n, ("none", l, k, SMALL)), True)
            for other in (("factor", 2), None, ("small",) * 2, ("powers", ()), prime_paper(1000003)):
                self.assertIs(takes_two(n, ("none", l, k, other)), False)
        for l, k in ((3, 1), (3, 2), (7, 1), (7, 2), (5, 1), (2, 0), (33, 1), (27, 1), (-3, 3), (3, -3), (3, 10 ** 30),
                     (1, 1), (0, 1), (-1, 1)):
            self.assertIs(takes_two(n, ("none", l, k, SMALL)), False, (l, k))
        p, paper = chain_of_powers(100)[-1]
        if p % 4 == 1:
            p, paper = next((q, below) for q, below in reversed(chain_of_powers(100)) if q % 4 == 3)
        self.assertIs(takes_two(2 * p, ("none", p, 1, paper)), True)
        self.assertIs(takes_two(2 * p * p, ("none", p, 2, paper)), False)
        self.assertIs(takes_two(2 * p * p, ("none", p, 1, paper)), False)

    def test_no_three_squares(self):
        for n in range(1, 700):
            for k in range(-1, 5):
                for m in range(-1, 90):
                    self.assertIs(takes_three(n, ("none", k, m)), k >= 0 and m >= 0 and n == 4 ** k * (8 * m + 7))
        self.assertIs(takes_three(4 ** 300 * 15, ("none", 300, 1)), True)
        for k, m in ((299, 1), (301, 1), (300, 2), (10 ** 30, 1), (300, 10 ** 300), (-300, 1)):
            self.assertIs(takes_three(4 ** 300 * 15, ("none", k, m)), False)

    def test_four_squares_always(self):
        self.assertIs(takes_four(7, ("none", 0, 0)), False)
        self.assertIs(takes_four(7, ("none", 7, 1, SMALL)), False)

    def test_bent(self):
        for n in (1, 2, 3, 7, 21, 28, 50, 2 * 1000003):
            for maker, judge in ((two_squares, takes_two), (three_squares, takes_three), (four_squares, takes_four)):
                paper = maker(n)
                for bent in bends(paper):
                    self.assertIs(judge(n, bent), False, (n, bent))
                if n < 100:
                    for bent in shorter(paper):
                        self.assertIs(judge(n, bent), False, (n, bent))
                # Another number of squares, or the paper of another judge.
                for other in (takes_two, takes_three, takes_four):
                    if other is not judge:
                        self.assertIs(other(n, paper), False)
        for value in NO_PAPERS:
            for n in (1, 3, 7, 10 ** 400):
                for judge in (takes_two, takes_three, takes_four):
                    self.assertIs(judge(n, value), False, value)


if __name__ == "__main__":
    unittest.main()
