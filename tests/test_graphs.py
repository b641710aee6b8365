"""Points 10.3 to 10.10: supersingular members, tables, loops, walks and marks."""

import itertools
import unittest

from classledger.alike import curve_invariant
from classledger.definite import class_number
from classledger.graphs import (
    brandt_table, curve_mark, edge_table, graph_distance, graph_walk, loops_by_classes, member_weight,
    supersingular_members)
from classledger.members import is_member, joining_value
from classledger.orders import curve_trace
from classledger.primes import primes_to
from tests import slow
from tests.test_forms import malformed
from tests.test_members import NO_PRIMES, joining
from tests.test_primes import refused

PRIMES = primes_to(500)[2:]
NUMBERS = [n for n in range(1, 301) if {p for p, _ in slow.factors(n)} <= {2, 3}]


def number(p):
    """Return the number g of point 10.3."""
    return p // 12 + {1: 0, 5: 1, 7: 1, 11: 2}[p % 12]


def walked(p):
    """Return all supersingular members: those that F_2 joins with a first one, all members tried."""
    first = next((curve_invariant(curve), 0) for curve in slow.curves(p) if curve_trace(curve) == 0)
    found, waiting = {first}, [first]
    while waiting:
        j = waiting.pop()
        for k in itertools.product(range(p), repeat=2):
            if k not in found and joining_value(p, 2, j, k) == (0, 0):
                found.add(k)
                waiting.append(k)
    return tuple(sorted(found))


def product(one, two):
    """Return the product of two tables."""
    return tuple(tuple(sum(row[i] * two[i][k] for i in range(len(two))) for k in range(len(two))) for row in one)


class Members(unittest.TestCase):
    def test_by_walking(self):
        for p in (5, 7, 11, 13, 17, 19, 23, 29, 31, 37, 41, 43):
            self.assertEqual(supersingular_members(p), walked(p))

    def test_numbers(self):
        for p in PRIMES:
            members = supersingular_members(p)
            self.assertEqual(len(members), number(p))
            self.assertEqual(list(members), sorted(set(members)))
            self.assertTrue(all(is_member(p, j) for j in members))

    def test_members_of_the_prime_field(self):
        """The members (j, 0) are the invariants of curves with the trace 0; class numbers tell their number."""
        for p in PRIMES:
            told = [j for j in supersingular_members(p) if j[1] == 0]
            if p % 4 == 1:
                self.assertEqual(2 * len(told), class_number(-4 * p))
            else:
                self.assertEqual(len(told), class_number(-p) * (1 if p % 8 == 7 else 2))
            if p < 40:
                self.assertEqual(told, sorted({(curve_invariant(c), 0) for c in slow.curves(p) if curve_trace(c) == 0}))

    def test_weights(self):
        for p in PRIMES:
            members = supersingular_members(p)
            weights = [member_weight(p, j) for j in members[:3]]
            self.assertEqual(weights, [3 if j == (0, 0) else 2 if j == (1728 % p, 0) else 1 for j in members[:3]])
            self.assertEqual((0, 0) in members, p % 3 == 2)
            self.assertEqual((1728 % p, 0) in members, p % 4 == 3)
            sixths = sum(6 // (3 if j == (0, 0) else 2 if j == (1728 % p, 0) else 1) for j in members)
            self.assertEqual(2 * sixths, p - 1)
        self.assertEqual([member_weight(499, (1728 % 499, 0)), member_weight(491, (0, 0))], [2, 3])

    def test_malformed(self):
        for value in NO_PRIMES:
            malformed(self, supersingular_members, value)
            malformed(self, member_weight, value, (8, 0))
            malformed(self, edge_table, value, 2)
            malformed(self, brandt_table, value, 2)
            malformed(self, loops_by_classes, value, 2)
            malformed(self, graph_walk, value, 2, (8, 0), (8, 0))
            malformed(self, graph_distance, value, 2, (8, 0), (8, 0))
        for value in slow.ODD_VALUES + (8, (8, 1), (0, 0), (8, 0, 0), [8, 0], (8, False), (45, 0), (8, 37), (-29, 0)):
            malformed(self, member_weight, 37, value)
            for function in (graph_walk, graph_distance):
                malformed(self, function, 37, 2, value, (8, 0))
                malformed(self, function, 37, 3, (8, 0), value)
        for value in slow.ODD_VALUES + (0, 1, 4, 5, -2, 6, (2,), 10 ** 30):
            malformed(self, edge_table, 37, value)
            malformed(self, graph_walk, 37, value, (8, 0), (8, 0))
            malformed(self, graph_distance, 37, value, (8, 0), (8, 0))
        # 1728 modulo 7 is 6; (True, 0) is no member though (1, 0) may be one.
        self.assertIn((1, 0), supersingular_members(11))
        malformed(self, member_weight, 11, (True, 0))
        malformed(self, graph_walk, 11, 2, (1, 0), (True, 0))


class Tables(unittest.TestCase):
    def test_edges(self):
        for p in (5, 7, 11, 13, 23, 37, 47, 61, 73):
            members = supersingular_members(p)
            for l in (2, 3):
                table = edge_table(p, l)
                for j, row in zip(members, table):
                    self.assertEqual([joining(p, l, k, j) == (0, 0) for k in members], [many > 0 for many in row])

    def test_multiplicities(self):
        """F_l(x, j) is the product of the x - k, each as often as the row tells: they agree at l + 2 members x."""
        for p in (5, 7, 11, 13, 17, 23, 37, 71, 101, 499):
            members = supersingular_members(p)
            d = slow.least_nonsquare(p)
            for l in (2, 3):
                for j, row in zip(members, edge_table(p, l)):
                    for x in ((0, 1), (1, 1), (2, 1), (3, 1), (4, 1)):
                        told = (1, 0)
                        for k, many in zip(members, row):
                            for _ in range(many):
                                y, z = (x[0] - k[0]) % p, (x[1] - k[1]) % p
                                told = ((told[0] * y + d * told[1] * z) % p, (told[0] * z + told[1] * y) % p)
                        self.assertEqual(joining(p, l, x, j), told)

    def test_sums_and_weights(self):
        for p in PRIMES[::3] + (11, 23, 491, 499):
            members = supersingular_members(p)
            weights = [3 if j == (0, 0) else 2 if j == (1728 % p, 0) else 1 for j in members]
            for l in (2, 3):
                table = edge_table(p, l)
                self.assertEqual({sum(row) for row in table}, {l + 1})
                for i, k in itertools.combinations(range(len(members)), 2):
                    self.assertEqual(table[i][k] * weights[k], table[k][i] * weights[i])

    def test_more_tables(self):
        for p in (5, 11, 13, 37, 83, 101, 251):
            size = number(p)
            unit = tuple(tuple(int(i == k) for k in range(size)) for i in range(size))
            tables = {1: unit}
            for l in (2, 3):
                edges = edge_table(p, l)
                before, now, n = unit, edges, l
                while n <= 300:
                    tables[n] = now
                    after = product(edges, now)
                    after = tuple(tuple(a - l * b for a, b in zip(*rows)) for rows in zip(after, before))
                    before, now, n = now, after, n * l
            for n in NUMBERS:
                two = n & -n
                told = brandt_table(p, n)
                self.assertEqual(told, product(tables[two], tables[n // two]))
                self.assertEqual(told, product(tables[n // two], tables[two]))
                self.assertTrue(all(item >= 0 for row in told for item in row))
                self.assertEqual({sum(row) for row in told}, {sum(slow.divisors(n))})
            self.assertEqual(brandt_table(p, 2), edge_table(p, 2))

    def test_great_tables(self):
        for p in (499, 491):
            for n in (1, 256, 243, 288):
                told = brandt_table(p, n)
                self.assertEqual({sum(row) for row in told}, {sum(slow.divisors(n))})

    def test_loops(self):
        for p in PRIMES:
            for n in (1, 2, 3, 4, 6) if p > 60 else NUMBERS:
                table = brandt_table(p, n)
                self.assertEqual(loops_by_classes(p, n), sum(table[i][i] for i in range(len(table))), (p, n))
        for p, n in ((499, 288), (491, 256), (5, 243), (7, 288), (11, 243), (13, 256)):
            table = brandt_table(p, n)
            self.assertEqual(loops_by_classes(p, n), sum(table[i][i] for i in range(len(table))), (p, n))

    def test_errors(self):
        for function in (brandt_table, loops_by_classes):
            for value in slow.ODD_VALUES + (0, -1, -2, 5, 7, 10, 14, 300, 301, 305, 10 ** 40, 35):
                malformed(self, function, 37, value)
            for n in (324, 384, 486, 512, 2 ** 300 * 3 ** 20):
                refused(self, "large", function, 37, n)


class Walks(unittest.TestCase):
    def distances(self, p, l, j):
        """Return the distances from a member to all others, by steps."""
        members = supersingular_members(p)
        table = edge_table(p, l)
        told, layer = {j: 0}, [j]
        while layer:
            layer = [k for i in layer for k, many in zip(members, table[members.index(i)]) if many]
            layer = [k for k in dict.fromkeys(layer) if k not in told]
            told.update({k: max(told.values()) + 1 for k in layer})
        return told

    def test_walks(self):
        for p in (5, 7, 11, 13, 37, 61, 83, 101, 131):
            members = supersingular_members(p)
            for l in (2, 3):
                for j in members[:4]:
                    told = self.distances(p, l, j)
                    self.assertEqual(set(told), set(members))
                    for k in members:
                        self.check_walk(p, l, j, k, told[k])

    def check_walk(self, p, l, j, k, distance):
        walk = graph_walk(p, l, j, k)
        self.assertIs(type(walk), tuple)
        self.assertEqual((walk[0], walk[-1], len(walk) - 1), (j, k, distance))
        self.assertEqual(graph_distance(p, l, j, k), distance)
        for one, two in zip(walk, walk[1:]):
            self.assertEqual(joining_value(p, l, one, two), (0, 0))

    def test_great(self):
        for p in (491, 499):
            members = supersingular_members(p)
            for l in (2, 3):
                told = self.distances(p, l, members[0])
                for k in members[::5] + members[-1:]:
                    self.check_walk(p, l, members[0], k, told[k])

    def test_edges(self):
        for p in (5, 13, 37, 499):
            for l in (2, 3):
                for j in supersingular_members(p)[:3]:
                    self.assertEqual(graph_walk(p, l, j, j), (j,))
                    self.assertEqual(graph_distance(p, l, j, j), 0)


class Marks(unittest.TestCase):
    def coefficient(self, p, a, b):
        """Return the coefficient of x^(p - 1) in the power, factor by factor."""
        items = [1]
        for _ in range((p - 1) // 2):
            wider = [0] * (len(items) + 3)
            for at, item in enumerate(items):
                for step, c in ((3, 1), (1, a), (0, b)):
                    wider[at + step] = (wider[at + step] + c * item) % p
            items = wider
        return items[p - 1]

    def test_by_factors(self):
        for p in (5, 7, 11, 13, 17):
            for curve in slow.curves(p):
                self.assertEqual(curve_mark(*curve), self.coefficient(*curve))

    def test_traces(self):
        for p in (5, 7, 11, 13, 17, 19, 23):
            for curve in slow.curves(p):
                self.assertEqual(curve_mark(*curve), curve_trace(curve) % p)
                self.assertEqual(curve_mark(*curve) == 0, curve_trace(curve) == 0)
        for p in (491, 499):
            for a, b in ((1, 1), (0, 1), (0, p - 1), (1, 0), (p - 1, 0), (17, 333)):
                self.assertEqual(curve_mark(p, a, b), curve_trace((p, a, b)) % p)
                self.assertEqual(curve_mark(p, a, b), self.coefficient(p, a, b))

    def test_malformed(self):
        for value in NO_PRIMES:
            malformed(self, curve_mark, value, 1, 1)
        for value in slow.ODD_VALUES + (-1, 7, 10 ** 30):
            malformed(self, curve_mark, 7, value, 1)
            malformed(self, curve_mark, 7, 1, value)
        malformed(self, curve_mark, 7, 0, 0)
        malformed(self, curve_mark, 7, 1, 2)
        malformed(self, curve_mark, 503, 1, 1)


if __name__ == "__main__":
    unittest.main()
