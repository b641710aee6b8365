"""Points 10.1 and 10.2: members and the polynomials that join them."""

import itertools
import random
import unittest

from classledger.members import (
    is_member, joining_value, member_inverse, member_product, member_sum, nonsquare_of)
from tests import slow
from tests.test_forms import malformed

NO_PRIMES = slow.ODD_VALUES + (-7, 0, 1, 2, 3, 4, 6, 9, 25, 503, 499 * 2, 9999999967, 10 ** 40, (7,), "7")
NO_MEMBERS = tuple(value for value in slow.ODD_VALUES if value != (1, 2)) + (
    0, 5, (1,), (1, 2, 3), (7, 0), (0, 7), (-1, 0), (0, -1), (True, 0), (0, False), [1, 2], (1, None), ((1, 2),), "12",
    (10 ** 40, 0))


def times(p, d, u, v):
    """Return the product of two members."""
    return ((u[0] * v[0] + d * u[1] * v[1]) % p, (u[0] * v[1] + u[1] * v[0]) % p)


def raised(p, d, u, k):
    """Return a power of a member."""
    result = (1, 0)
    for _ in range(k):
        result = times(p, d, result, u)
    return result


def joining(p, l, u, v):
    """Return F_l(u, v), term by term as point 10.2 writes it."""
    two = ((1, 3, 0), (1, 0, 3), (-1, 2, 2), (1488, 2, 1), (1488, 1, 2), (-162000, 2, 0), (-162000, 0, 2),
           (40773375, 1, 1), (8748000000, 1, 0), (8748000000, 0, 1), (-157464000000000, 0, 0))
    three = ((1, 4, 0), (1, 0, 4), (-1, 3, 3), (2232, 3, 2), (2232, 2, 3), (-1069956, 3, 1), (-1069956, 1, 3),
             (36864000, 3, 0), (36864000, 0, 3), (2587918086, 2, 2), (8900222976000, 2, 1), (8900222976000, 1, 2),
             (452984832000000, 2, 0), (452984832000000, 0, 2), (-770845966336000000, 1, 1),
             (1855425871872000000000, 1, 0), (1855425871872000000000, 0, 1))
    d = slow.least_nonsquare(p)
    x, y = 0, 0
    for c, i, j in two if l == 2 else three:
        z, w = times(p, d, raised(p, d, u, i), raised(p, d, v, j))
        x, y = x + c * z, y + c * w
    return (x % p, y % p)


class Members(unittest.TestCase):
    def test_nonsquares(self):
        for p in range(5, 501):
            if slow.is_prime(p):
                self.assertEqual(nonsquare_of(p), slow.least_nonsquare(p))

    def test_is_member(self):
        for p in (5, 7, 499):
            for x, y in itertools.product((-1, 0, 1, 4, 5, 6, 7, 498, 499), repeat=2):
                self.assertIs(is_member(p, (x, y)), 0 <= x < p and 0 <= y < p)
        for value in NO_MEMBERS:
            self.assertIs(is_member(7, value), False, value)

    def test_field(self):
        for p in (5, 7, 11):
            d = slow.least_nonsquare(p)
            every = list(itertools.product(range(p), repeat=2))
            for u in every:
                for v in every:
                    self.assertEqual(member_sum(p, u, v), ((u[0] + v[0]) % p, (u[1] + v[1]) % p))
                    self.assertEqual(member_product(p, u, v), times(p, d, u, v))
                if u == (0, 0):
                    self.assertIsNone(member_inverse(p, u))
                else:
                    self.assertEqual(times(p, d, u, member_inverse(p, u)), (1, 0))

    def test_great(self):
        chance = random.Random(1)
        for p in (487, 491, 499):
            d = slow.least_nonsquare(p)
            self.assertEqual(member_product(p, (0, 1), (0, 1)), (d, 0))
            for _ in range(50):
                u, v = [(chance.randrange(p), chance.randrange(1, p)) for _ in range(2)]
                self.assertEqual(member_product(p, u, v), times(p, d, u, v))
                self.assertEqual(times(p, d, u, member_inverse(p, u)), (1, 0))
                self.assertIs(is_member(p, member_inverse(p, u)), True)

    def test_malformed(self):
        for value in NO_PRIMES:
            malformed(self, nonsquare_of, value)
            malformed(self, is_member, value, (1, 2))
            malformed(self, is_member, value, None)
            malformed(self, member_sum, value, (1, 2), (1, 2))
            malformed(self, member_product, value, (1, 2), (1, 2))
            malformed(self, member_inverse, value, (1, 2))
            malformed(self, joining_value, value, 2, (1, 2), (1, 2))
        for value in NO_MEMBERS:
            for function in (member_sum, member_product):
                malformed(self, function, 7, value, (1, 2))
                malformed(self, function, 7, (1, 2), value)
            malformed(self, member_inverse, 7, value)
            malformed(self, joining_value, 7, 2, value, (1, 2))
            malformed(self, joining_value, 7, 3, (1, 2), value)
        for value in slow.ODD_VALUES + (0, 1, 4, 5, -2, 6, (2,), 10 ** 30):
            malformed(self, joining_value, 7, value, (1, 2), (1, 2))


class Joining(unittest.TestCase):
    def test_term_by_term(self):
        for p in (5, 7):
            every = list(itertools.product(range(p), repeat=2))
            for u, v in itertools.product(every[::2], every):
                for l in (2, 3):
                    self.assertEqual(joining_value(p, l, u, v), joining(p, l, u, v))

    def test_great(self):
        chance = random.Random(2)
        for p in (13, 101, 379, 487, 491, 499):
            for _ in range(30):
                u, v = [(chance.randrange(p), chance.randrange(p)) for _ in range(2)]
                for l in (2, 3):
                    self.assertEqual(joining_value(p, l, u, v), joining(p, l, u, v))
                    self.assertEqual(joining_value(p, l, u, v), joining_value(p, l, v, u))


if __name__ == "__main__":
    unittest.main()
