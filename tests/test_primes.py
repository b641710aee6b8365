"""Points 2.1 to 2.4."""

import unittest

from classledger.errors import Refused
from classledger.primes import (
    divisor_sum, divisors_of, factors, is_prime, next_prime, primes_to, root_of_order, stands_round)
from tests import slow

BOUND = 3317044064679887385961981
CARMICHAEL = (561, 1105, 1729, 2465, 2821, 6601, 8911, 825265, 321197185, 5394826801, 232250619601, 9746347772161)


def refused(test, reason, function, *arguments):
    """Check that a call is refused for the reason."""
    with test.assertRaises(Refused) as caught:
        function(*arguments)
    test.assertEqual(caught.exception.reason, reason)


class Primes(unittest.TestCase):
    def test_small(self):
        for n in range(-50, 5000):
            self.assertIs(is_prime(n), slow.is_prime(n))
        self.assertIs(is_prime(-10 ** 30), False)

    def test_around_a_million(self):
        for n in list(range(999900, 1000300)) + [1009 ** 2, 997 ** 2, 997 * 1009, 1009 * 1013]:
            self.assertIs(is_prime(n), slow.is_prime(n))

    def test_composites(self):
        for n in CARMICHAEL:
            self.assertIs(is_prime(n), False)
        for p in (43, 47, 1009, 10 ** 6 + 3, 10 ** 9 + 7, 10 ** 12 + 39):
            self.assertIs(is_prime(p), True)
            self.assertIs(is_prime(p * p), False)
        # These stand the rounds by the first primes, to 7, to 13, to 17, to 31 and to 37.
        for n in (3215031751, 3474749660383, 341550071728321, 3825123056546413051, 318665857834031151167461):
            self.assertIs(is_prime(n), False)

    def test_great(self):
        for n in (10 ** 18 + 9, 2 ** 61 - 1, 10 ** 20 + 39, 10 ** 24 + 7):
            self.assertIs(is_prime(n), True)
        for n in (10 ** 20 + 37, (10 ** 9 + 7) * (10 ** 9 + 9), 10 ** 24 + 9, BOUND - 2):
            self.assertIs(is_prime(n), False)

    def test_bound(self):
        self.assertIs(is_prime(BOUND - 1), False)
        for n in (BOUND, BOUND + 1, BOUND + 2, 10 ** 50):
            refused(self, "large", is_prime, n)

    def test_round(self):
        for n in range(3, 200, 2):
            s, d = 0, n - 1
            while d % 2 == 0:
                s, d = s + 1, d // 2
            for a in range(-3, n + 3):
                told = pow(a, d, n) == 1 or any(pow(a, 2 ** i * d, n) == n - 1 for i in range(s))
                self.assertIs(stands_round(n, a), told)

    def test_primes_to(self):
        for n in list(range(-3, 130)) + [997, 998, 1008, 1009]:
            self.assertEqual(primes_to(n), tuple(p for p in range(max(n, 0) + 1) if slow.is_prime(p)))
        told = primes_to(10 ** 6)
        self.assertEqual((len(told), told[0], told[-1]), (78498, 2, 999983))
        self.assertEqual(primes_to(999982), told[:-1])
        self.assertEqual(primes_to(999983), told)

    def test_next_prime(self):
        for n in range(-5, 1000):
            p = max(n, 0) + 1
            while not slow.is_prime(p):
                p += 1
            self.assertEqual(next_prime(n), p)
        self.assertEqual(next_prime(-10 ** 40), 2)
        self.assertEqual(next_prime(10 ** 6), 1000003)
        self.assertEqual(next_prime(10 ** 20), 10 ** 20 + 39)


class Factors(unittest.TestCase):
    def test_small(self):
        self.assertEqual(factors(1), ())
        for n in list(range(1, 3000)) + list(range(10 ** 6 - 30, 10 ** 6 + 60)):
            self.assertEqual(factors(n), slow.factors(n))

    def test_great(self):
        told = ((((1000000007, 1), (1000000009, 1))), ((9999999929, 1), (9999999967, 1)), ((2, 20), (5, 20)),
                ((9999999967, 2),), ((99999999977, 1),), ((1009, 2), (1013, 3)), ((1000003, 3),),
                ((99999989, 1), (999999999989, 1)), ((99999999999999999989, 1),), ((31607, 4),),
                ((2, 1), (3, 2), (7, 1), (100003, 1), (1000003, 1)), ((3, 41),), ((1013, 6),), ((1009, 1), (10007, 4)))
        for rows in told:
            n = 1
            for p, k in rows:
                n *= p ** k
            self.assertEqual(factors(n), rows)

    def test_bounds(self):
        self.assertEqual(factors(10 ** 20), ((2, 20), (5, 20)))
        for function in (factors, divisors_of):
            refused(self, "large", function, 10 ** 20 + 1)
            refused(self, "large", function, 10 ** 40)
        refused(self, "large", divisor_sum, 10 ** 20 + 1, 0)
        refused(self, "large", divisor_sum, 10 ** 20 + 1, 3)

    def test_divisors(self):
        for n in range(1, 400):
            told = slow.divisors(n)
            self.assertEqual(divisors_of(n), tuple(told))
            for k in range(5):
                self.assertEqual(divisor_sum(n, k), sum(d ** k for d in told))
        self.assertEqual(len(divisors_of(10 ** 20)), 441)
        self.assertEqual(divisor_sum(10 ** 20, 0), 441)
        self.assertEqual(divisor_sum(12, 100), sum(d ** 100 for d in (1, 2, 3, 4, 6, 12)))

    def test_many_divisors(self):
        exactly = 2 ** 4 * 3 ** 4 * 5 ** 4 * 7 ** 4 * 11 * 13 * 17 * 19
        more = exactly * 23
        self.assertLess(more, 10 ** 20)
        divisors = divisors_of(exactly)
        self.assertEqual(len(divisors), 10000)
        self.assertEqual(list(divisors), sorted(set(divisors)))
        self.assertFalse(any(exactly % d for d in divisors))
        refused(self, "many", divisors_of, more)
        refused(self, "many", divisors_of, 2 ** 5 * 3 ** 4 * 5 ** 4 * 7 ** 4 * 11 * 13 * 17 * 19)
        self.assertEqual(divisor_sum(more, 0), 20000)
        # Above both bounds the first one tells.
        refused(self, "large", divisors_of, more * 29 * 31 * 37 * 41)


class Orders(unittest.TestCase):
    def check_orders(self, l):
        least = {}
        for a in range(1, l):
            x, m = a, 1
            while x != 1 % l:
                x, m = x * a % l, m + 1
            least.setdefault(m, a)
        for m in slow.divisors(l - 1):
            self.assertEqual(root_of_order(m, l), least[m], (m, l))

    def test_small(self):
        for l in (2, 3, 5, 7, 11, 13, 17, 31, 37, 61, 97, 101, 109, 181, 241, 257, 331, 337, 421):
            self.check_orders(l)

    def test_great(self):
        l = 9999991
        self.assertEqual(root_of_order(1, l), 1)
        self.assertEqual(root_of_order(2, l), l - 1)
        for m in [d for d in slow.divisors(l - 1) if d > 1000]:
            a = root_of_order(m, l)
            parts = [m // q for q, _ in slow.factors(m)]
            for x in range(1, min(a, 3000) + 1):
                told = pow(x, m, l) == 1 and all(pow(x, part, l) != 1 for part in parts)
                self.assertIs(told, x == a)

    def test_beside_ten_thousand(self):
        # All rests of the order m are the powers of one of them, by exponents without divisor in common with m.
        for m, l in ((9998, 29 * 9998 + 1), (10000, 10000 * 7 + 1), (10002, 10002 * 4 + 1), (12000, 12000 * 14 + 1)):
            while not slow.is_prime(l):
                l += m
            self.assertLess(l, 10 ** 7)
            parts = [m // q for q, _ in slow.factors(m)]
            a = 1
            while pow(a, m, l) != 1 or any(pow(a, part, l) == 1 for part in parts):
                a += 1
            self.assertEqual(root_of_order(m, l), a)


if __name__ == "__main__":
    unittest.main()
