"""Points 1.1 to 1.5 and 1.10."""

import unittest

from classledger.errors import NoText
from classledger.whole import (
    combination, common_divisor, exact_power, inverse, is_integer, is_square, joined, kronecker, power, read_integer,
    root)
from tests import slow


class Integers(unittest.TestCase):
    def test_integers(self):
        for value in (0, 1, -1, 10 ** 100, -10 ** 5000):
            self.assertIs(is_integer(value), True)

    def test_every_other_value(self):
        for value in slow.ODD_VALUES + (NoText(0), (0,), [0], "0", ((0,),)):
            self.assertIs(is_integer(value), False)


class Divisors(unittest.TestCase):
    def test_small(self):
        for a in range(-30, 31):
            for b in range(-30, 31):
                g = slow.gcd(a, b)
                self.assertEqual(common_divisor(a, b), g)
                told, u, v = combination(a, b)
                self.assertEqual((told, a * u + b * v), (g, g))

    def test_great(self):
        a, b = 7 * 10 ** 80, -21 * 3 ** 90
        self.assertEqual(common_divisor(a, b), 7)
        g, u, v = combination(a, b)
        self.assertEqual((g, a * u + b * v), (7, 7))


class Roots(unittest.TestCase):
    def check_root(self, n, k):
        r = root(n, k)
        self.assertGreaterEqual(r, 0)
        self.assertTrue(r ** k <= n < (r + 1) ** k, (n, k))

    def test_small(self):
        for n in range(300):
            for k in range(1, 12):
                self.check_root(n, k)

    def test_at_powers(self):
        for b in (2, 3, 10, 12345, 10 ** 9 + 7, 2 ** 64, 10 ** 40 + 1):
            for k in (1, 2, 3, 5, 7, 20, 31):
                for n in (b ** k - 1, b ** k, b ** k + 1):
                    self.assertEqual(root(n, k), b - 1 if n < b ** k else b if k > 1 else n)

    def test_any_size(self):
        for n in (10 ** 3999 + 7, 3 ** 5000, 2 ** 4096 - 1):
            for k in (2, 3, 4, 10, 63, 64, 65, 100, 500, 4000):
                self.check_root(n, k)

    def test_great_exponents(self):
        self.assertEqual([root(n, 10 ** 30) for n in (0, 1, 2, 10 ** 50)], [0, 1, 1, 1])
        self.assertEqual([root(2 ** 100 - 1, k) for k in (99, 100, 101)], [2, 1, 1])
        self.assertEqual(root(2 ** 100, 100), 2)

    def test_squares(self):
        squares = {r * r for r in range(40)}
        for n in range(-1600, 1600):
            self.assertIs(is_square(n), n in squares)
        big = 10 ** 60 + 3
        self.assertEqual([is_square(big * big + k) for k in (-1, 0, 1)], [False, True, False])
        self.assertIs(is_square(-big * big), False)

    def test_small_exact_powers(self):
        for n in range(2, 1100):
            told = [(b, k) for k in range(1, 12) for b in range(2, n + 1) if b ** k == n]
            self.assertEqual(exact_power(n), max(told, key=lambda pair: pair[1]))

    def test_exact_powers(self):
        prime = 10 ** 9 + 7
        for b in (2, 6, 12, 1009, 1031 * 1033, prime, 2 * 1009 ** 2, 10 ** 20 + 39):
            for k in (1, 2, 3, 4, 6, 7, 12, 30, 49):
                self.assertEqual(exact_power(b ** k), (b, k))

    def test_beside_exact_powers(self):
        for b in (3, 10, 1009, 10 ** 9 + 7):
            for k in (5, 6, 30):
                for n in (b ** k - 1, b ** k + 1):
                    base, exponent = exact_power(n)
                    # Two powers beside one another are 8 and 9 alone.
                    self.assertEqual((base, exponent), (n, 1))
        self.assertEqual((exact_power(8), exact_power(9)), ((2, 3), (3, 2)))

    def test_great_exact_powers(self):
        self.assertEqual(exact_power(7 ** 4000), (7, 4000))
        self.assertEqual(exact_power(1009 ** 997), (1009, 997))
        self.assertEqual(exact_power(2 ** 5003), (2, 5003))
        self.assertEqual(exact_power(10 ** 3999), (10, 3999))
        self.assertEqual(exact_power(10 ** 3999 + 1)[1], 1)
        self.assertEqual(exact_power(4 * 9 ** 5), (486, 2))


class Rests(unittest.TestCase):
    def test_inverse(self):
        for m in range(1, 40):
            for a in range(-45, 46):
                told = [b for b in range(m) if (a * b - 1) % m == 0]
                self.assertEqual(inverse(a, m), told[0] if told else None)
        self.assertEqual(inverse(5, 1), 0)
        self.assertEqual(inverse(0, 1), 0)

    def test_great_inverse(self):
        m = 10 ** 90 + 1
        self.assertEqual(inverse(3 ** 100, m) * 3 ** 100 % m, 1)

    def test_power(self):
        for m in range(1, 15):
            for a in range(-16, 17):
                for e in range(8):
                    self.assertEqual(power(a, e, m), a ** e % m)
        self.assertEqual(power(0, 0, 1), 0)
        self.assertEqual(power(0, 0, 5), 1)
        self.assertEqual(power(-3, 10 ** 60 + 5, 10 ** 40 + 7), pow(-3, 10 ** 60 + 5, 10 ** 40 + 7))

    def test_kronecker(self):
        for n in range(-60, 61):
            for a in range(-60, 61):
                self.assertEqual(kronecker(a, n), slow.sign(a, n), (a, n))

    def test_kronecker_at_primes(self):
        for p in (101, 257, 997):
            squares = {x * x % p for x in range(1, p)}
            for a in range(-p, p):
                self.assertEqual(kronecker(a, p), 0 if a % p == 0 else 1 if a % p in squares else -1)

    def test_great_kronecker(self):
        p = 10 ** 18 + 9
        for a in (2, -1, 3, -5, 10 ** 30 + 1):
            euler = pow(a, (p - 1) // 2, p)
            self.assertEqual(kronecker(a, p), -1 if euler == p - 1 else euler)
            self.assertEqual(kronecker(a, 3 * p), slow.sign(a, 3) * kronecker(a, p))
        self.assertEqual(kronecker(10 ** 50, 10 ** 40), 0)

    def test_joined(self):
        for m in range(1, 9):
            for k in range(1, 9):
                for r in range(-3, 6):
                    for s in range(-2, 9):
                        self.check_joined(((r, m), (s, k)))

    def check_joined(self, pairs):
        least = 1
        while any(least % m for _, m in pairs):
            least += 1
        told = [x for x in range(least) if all((x - r) % m == 0 for r, m in pairs)]
        self.assertEqual(joined(pairs), (told[0], least) if told else None)

    def test_joined_of_other_numbers(self):
        self.assertEqual(joined(()), (0, 1))
        self.assertEqual(joined([]), (0, 1))
        self.assertEqual(joined([(-1, 5)]), (4, 5))
        self.assertEqual(joined(((7, 1),)), (0, 1))
        for pairs in ([(1, 2), (2, 3), (3, 5)], ((1, 4), (3, 6), (9, 10)), [(1, 4), (3, 6), (8, 10)], [(2, 6)] * 3):
            self.check_joined(pairs)
            before = list(pairs)
            joined(pairs)
            self.assertEqual(list(pairs), before)
        s, m = joined(((5, 10 ** 30), (7, 10 ** 30 + 1)))
        self.assertEqual((s % 10 ** 30, s % (10 ** 30 + 1), m), (5, 7, 10 ** 30 * (10 ** 30 + 1)))
        self.assertTrue(0 <= s < m)


class WrittenForms(unittest.TestCase):
    def test_integers(self):
        for n in (0, 1, -1, 9, 10, -10, 123456789, -10 ** 50):
            self.assertEqual(read_integer(str(n)), n)

    def test_lengths(self):
        for head in ("", "-"):
            digits = "7" * 4000
            self.assertEqual(read_integer(head + digits), int(head + digits))
            with self.assertRaises(NoText) as caught:
                read_integer(head + digits + "7")
            self.assertEqual(caught.exception.at, 0)

    def test_others(self):
        texts = ("", "-", "-0", "+1", "00", "01", "-01", " 1", "1 ", "1_0", "--1", "1-", "0x1", "1.0", "\u0661", "\u00b2",
                 "1\n", "a", "1e5", "- 1", "\uff11", "True", "-00")
        for value in texts + slow.ODD_VALUES[:4] + slow.ODD_VALUES[5:] + (0, 1, b"1", ["1"], ("1",)):
            with self.assertRaises(NoText) as caught:
                read_integer(value)
            self.assertEqual(caught.exception.at, 0)


if __name__ == "__main__":
    unittest.main()
