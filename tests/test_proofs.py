"""Points 2.5 to 2.8: the makers of the papers."""

import unittest

from classledger.proofs import factors_paper, prime_paper
from tests import slow
from tests.papers import wrong_factors, wrong_prime
from tests.test_primes import CARMICHAEL, refused

# Primes from the bound of the small ones on to 10^20.
GREAT_PRIMES = (1000003, 1000033, 10 ** 7 + 19, 10 ** 9 + 7, 10 ** 12 + 39, 2 ** 61 - 1, 10 ** 18 + 9,
                99999999999999999989, 2 * 10 ** 9 + 11, 4 * 10 ** 6 + 37, 65537 ** 2 * 12 + 1)


class PrimePapers(unittest.TestCase):
    def test_small(self):
        for n in list(range(2, 2000)) + list(range(999950, 1000001)):
            paper = prime_paper(n)
            if slow.is_prime(n):
                self.assertEqual(paper, ("small",))
            else:
                self.assertEqual(paper, ("factor", slow.factors(n)[0][0]))

    def test_beside_a_million(self):
        self.assertEqual(prime_paper(999983), ("small",))
        self.assertEqual(prime_paper(10 ** 6), ("factor", 2))
        self.assertEqual(prime_paper(1000003)[0], "powers")
        for n in range(10 ** 6 + 1, 10 ** 6 + 400):
            paper = prime_paper(n)
            if slow.is_prime(n):
                self.assertEqual(paper[0], "powers")
                self.assertIsNone(wrong_prime(n, paper))
            else:
                self.assertEqual(paper, ("factor", slow.factors(n)[0][0]))

    def test_great(self):
        told = 0
        for n in GREAT_PRIMES:
            paper = prime_paper(n)
            if paper[0] == "powers":
                told += 1
                self.assertIsNone(wrong_prime(n, paper))
            else:
                self.assertEqual(paper, ("factor", slow.factors(n)[0][0]))
        self.assertGreaterEqual(told, 8)

    def test_composites(self):
        for n in CARMICHAEL:
            self.assertEqual(prime_paper(n), ("factor", slow.factors(n)[0][0]))
        self.assertEqual(prime_paper((10 ** 9 + 7) * (10 ** 9 + 9)), ("factor", 10 ** 9 + 7))
        self.assertEqual(prime_paper(9999999967 ** 2), ("factor", 9999999967))
        self.assertEqual(prime_paper(1009 * 1013 * (10 ** 9 + 7)), ("factor", 1009))

    def test_bound(self):
        self.assertEqual(prime_paper(10 ** 20), ("factor", 2))
        self.assertEqual(prime_paper(10 ** 20 - 11)[0], "powers")
        for n in (10 ** 20 + 1, 10 ** 20 + 39, 10 ** 30):
            refused(self, "large", prime_paper, n)
            refused(self, "large", factors_paper, n)


class FactorsPapers(unittest.TestCase):
    def test_small(self):
        self.assertEqual(factors_paper(1), ("factors", ()))
        for n in range(1, 1500):
            rows = tuple((p, k, ("small",)) for p, k in slow.factors(n))
            self.assertEqual(factors_paper(n), ("factors", rows))

    def test_great(self):
        for n in (1000003, 1000003 ** 3, 6 * (10 ** 9 + 7) ** 2, 10 ** 20, 10 ** 20 - 11, (10 ** 9 + 7) * (10 ** 9 + 9)):
            paper = factors_paper(n)
            self.assertIsNone(wrong_factors(n, paper))
            for p, _, below in paper[1]:
                self.assertEqual(below, prime_paper(p))


if __name__ == "__main__":
    unittest.main()
