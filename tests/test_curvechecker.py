"""Points 15.1 and 15.8 to 15.11: the papers of curves, their makers and judges."""

import itertools
import math
import random
import unittest

from classledger.curvechecker import takes_curves, takes_log, takes_number, takes_order
from classledger.curvepapers import alike_paper, log_paper, number_paper, order_paper
from classledger.curves import point_multiple, points_at, twist_of
from classledger.groups import is_point_group
from tests import slow
from tests.papers import NO_PAPERS, Judged
from tests.test_curves import NO_CURVES, NO_POINTS
from tests.test_forms import malformed

# Curves over small primes with each structure of few points, and over greater ones.
SMALL = [curve for p in (5, 7, 11, 13) for curve in slow.curves(p)]
GREAT = ((10007, 3, 5), (99991, 7, 0), (1000003, 0, 11), (9999999967, 3, 8), (9999999967, 0, 5), (7000000001, 7, 0),
         (258280327, 0, 2), (86093443, 0, 5), (229, 0, 1))


def point_of(curve, least=0):
    """Return a point of a curve other than ()."""
    x = least
    while not points_at(curve, x):
        x += 1
    return points_at(curve, x)[0]


def prime_factors(n):
    """Return the ascending tuple of the primes that divide n."""
    return tuple(q for q, _ in slow.factors(n))


class Orders(Judged):
    def test_papers_of_the_maker(self):
        for curve in random.Random(158).sample(SMALL, 60):
            for P in slow.points(curve):
                k = slow.order(curve, P)
                self.assertEqual(order_paper(curve, P), ("order", k, prime_factors(k)))
                for n in range(-1, 2 * k + 3):
                    self.assertIs(takes_order(curve, P, ("order", n, prime_factors(abs(n) or 1))), n == k)

    def test_great(self):
        for curve in GREAT:
            P = point_of(curve)
            paper = order_paper(curve, P)
            _, k, primes = paper
            self.takes(takes_order, curve, P, paper)
            self.assertEqual(point_multiple(curve, k, P), ())
            self.assertEqual(primes, prime_factors(k))
            for q in primes:
                self.bars(takes_order, curve, P, ("order", k // q, prime_factors(k // q)))
                self.bars(takes_order, curve, P, ("order", k * q, primes))
            self.bars(takes_order, curve, P, ("order", 2 * k, tuple(sorted(set(primes) | {2}))))

    def test_each_condition(self):
        curve, P = (10007, 3, 5), point_of((10007, 3, 5))
        _, k, primes = order_paper(curve, P)
        self.assertGreater(len(primes), 1)
        for wrong in (primes[::-1], primes[1:], primes[:-1], primes + primes[-1:], (1,) + primes, primes + (10007,), (k,),
                      (), list(primes), tuple(-q for q in primes), tuple(sorted(primes + (4,))), tuple(map(str, primes))):
            self.bars(takes_order, curve, P, ("order", k, wrong))
        for other in (-k, 0, 10 ** 30, k * 10 ** 30, str(k), (k,), float(k)):
            self.bars(takes_order, curve, P, ("order", other, primes))
        self.takes(takes_order, curve, (), ("order", 1, ()))
        self.bars(takes_order, curve, P, ("order", 1, ()))
        self.bars(takes_order, curve, (), ("order", k, primes))
        self.bars(takes_order, curve, (), ("order", 2, (2,)))
        self.bars(takes_order, curve, (), ("order", True, ()))
        # Points of the order 2.
        self.takes(takes_order, (5, 1, 0), (2, 0), ("order", 2, (2,)))
        self.bars(takes_order, (5, 1, 0), (2, 0), ("order", 4, (2,)))
        self.bars(takes_order, (5, 1, 0), (2, 0), ("order", 2 * 10 ** 10 + 2, prime_factors(2 * 10 ** 10 + 2)))

    def test_other_points(self):
        for curve in ((13, 2, 3), (11, 1, 6)):
            points = slow.points(curve)
            for P, Q in itertools.product(points, repeat=2):
                fits = slow.order(curve, P) == slow.order(curve, Q)
                self.assertIs(takes_order(curve, Q, order_paper(curve, P)), fits)

    def test_bent(self):
        curve = (10007, 3, 5)
        self.check_bent(takes_order, curve, point_of(curve), order_paper(curve, point_of(curve)))
        for value in NO_PAPERS:
            for P in ((), (0, 0), (2, 0)):
                self.bars(takes_order, (5, 1, 0), P, value)


def groups_of(curve):
    """Return all groups of a small curve, by the words of point 8.10, through the points i G + j H."""
    points = slow.points(curve)
    found = []
    for G, H in itertools.product(points, repeat=2):
        n, m = slow.order(curve, G), slow.order(curve, H)
        if n % m == 0:
            told = {slow.added(curve, slow.multiplied(curve, i, G), slow.multiplied(curve, j, H))
                    for i in range(n) for j in range(m)}
            if len(told) == n * m:
                found.append((G, n, H, m))
    return found


class Numbers(Judged):
    def test_papers_of_the_maker(self):
        for curve in SMALL:
            paper = number_paper(curve)
            self.takes(takes_number, curve, paper)
            self.assertEqual(paper[1][1] * paper[1][3], len(slow.points(curve)))
            twist = twist_of(curve)
            fits = is_point_group(twist, paper[2]) and is_point_group(twist_of(twist), paper[1])
            self.assertIs(takes_number(twist, ("number", paper[2], paper[1])), fits)

    def test_great(self):
        for curve in GREAT:
            paper = number_paper(curve)
            self.takes(takes_number, curve, paper)
            _, (G, n, H, m), two = paper
            p = curve[0]
            self.assertLess((m * n - p - 1) ** 2, 4 * p)
            self.assertEqual(n % m, 0)
            # A group of fewer points, and the same group with other points.
            for q in prime_factors(n)[:2]:
                if (n // q) % m == 0 and math.gcd(m, q) == 1:
                    self.bars(takes_number, curve, ("number", (point_multiple(curve, q, G), n // q, H, m), two))
            k = next(k for k in range(2, 99) if math.gcd(k, n) == 1)
            self.takes(takes_number, curve, ("number", (point_multiple(curve, k, G), n, H, m), two))
            self.bars(takes_number, curve, ("number", two, paper[1]))

    def test_all_groups(self):
        for curve in ((5, 1, 0), (7, 0, 1), (7, 1, 1), (7, 0, 2), (5, 0, 1), (11, 1, 0), (13, 0, 1)):
            twist = twist_of(curve)
            ones, twos = groups_of(curve), groups_of(twist)
            told = 0
            for one in ones[:400]:
                two = next(two for two in twos if two[1] * two[3] == len(slow.points(twist)))
                fits = one[1] * one[3] == len(slow.points(curve))
                self.assertIs(takes_number(curve, ("number", one, two)), fits)
                told += fits
            self.assertGreater(told, 0)
            whole = [one for one in ones if one[1] * one[3] == len(slow.points(curve))][0]
            for two in twos[:400]:
                self.assertIs(takes_number(curve, ("number", whole, two)), two[1] * two[3] == len(slow.points(twist)))

    def test_each_condition(self):
        # The structure (2, 4): points of the order 4 and 2.
        curve = next(curve for curve in SMALL if any(g[1] == 4 and g[3] == 2 for g in groups_of(curve)))
        G, n, H, m = next(g for g in groups_of(curve) if g[1] == 4 and g[3] == 2)
        two = number_paper(curve)[2]
        self.takes(takes_number, curve, ("number", (G, n, H, m), two))
        half = slow.multiplied(curve, 2, G)
        for wrong in ((H, m, G, n), (G, n, half, m), (G, 8, H, 1), (G, 8, (), 1), (G, n, H, 4), (G, 2, H, 2),
                      (G, n, (), 2), (G, n, G, 2), (half, n, H, m), (half, 2, H, 4), (G, n, H, 0), (G, 0, H, 0),
                      (G, -n, H, -m), (G, n, H, -2), (G, 2 * n, H, m), (G, n, H, 2 * m), (G, n, H), (G, n, H, m, 1),
                      (G, 10 ** 30, H, 2), ((), 8, (), 1),
                      (G + (0,), n, H, m), ((G[0] + curve[0], G[1]), n, H, m), ((G[0], G[1] - curve[0]), n, H, m),
                      (list(G), n, H, m), (G, n, (H[0], True), m), (G, n, [], m)):
            self.bars(takes_number, curve, ("number", wrong, two))
        # Each point in the place of G and of H.
        groups = groups_of(curve)
        for R in slow.points(curve):
            for told in ((G, n, R, m), (R, n, H, m), (R, n, G, m), (H, n, R, m), (G, 2 * n, R, 1), (R, 2 * n, (), 1)):
                fits = told in groups and told[1] * told[3] == n * m
                self.assertIs(takes_number(curve, ("number", told, two)), fits)
        # A point of the twist, and twists by other numbers.
        self.bars(takes_number, curve, ("number", (two[0],) + (n, H, m), two))
        self.bars(takes_number, curve, ("number", (G, n, H, m), (G, n, H, m)))
        p, a, b = curve
        for d in range(2, p):
            other = (p, a * d * d % p, b * d ** 3 % p)
            fits = is_point_group(other, (G, n, H, m)) and is_point_group(twist_of(other), two)
            self.assertIs(takes_number(other, ("number", (G, n, H, m), two)), fits)

    def test_papers_of_other_curves(self):
        chance = random.Random(159)
        for _ in range(300):
            one, two = chance.sample(SMALL, 2)
            paper = number_paper(one)
            fits = is_point_group(two, paper[1]) and is_point_group(twist_of(two), paper[2]) and one[0] == two[0]
            self.assertIs(takes_number(two, paper), fits)

    def test_bent(self):
        for curve in ((5, 1, 0), (7, 1, 1), (10007, 3, 5)):
            self.check_bent(takes_number, curve, number_paper(curve))
            for value in NO_PAPERS:
                self.bars(takes_number, curve, value)


class Logarithms(Judged):
    def test_papers_of_the_maker(self):
        for curve in random.Random(160).sample(SMALL, 40) + [(5, 1, 0), (7, 0, 1), (13, 0, 1)]:
            points = slow.points(curve)
            for P, Q in itertools.product(points, repeat=2):
                told = [k for k in range(slow.order(curve, P)) if slow.multiplied(curve, k, P) == Q]
                paper = log_paper(curve, P, Q)
                self.takes(takes_log, curve, P, Q, paper)
                if told:
                    self.assertEqual(paper, ("log", told[0]))
                else:
                    self.assertEqual(paper[0], "none")

    def test_log(self):
        for curve in ((13, 2, 3), (5, 1, 0), (7, 0, 1)):
            for P, Q in itertools.product(slow.points(curve), repeat=2):
                for k in range(-2, 15):
                    fits = k >= 0 and slow.multiplied(curve, max(k, 0), P) == Q
                    self.assertIs(takes_log(curve, P, Q, ("log", k)), fits)
        curve, P = (10007, 3, 5), point_of((10007, 3, 5))
        n = order_paper(curve, P)[1]
        self.takes(takes_log, curve, P, point_multiple(curve, 7, P), ("log", 7 + n * 10 ** 500))
        self.bars(takes_log, curve, P, point_multiple(curve, 8, P), ("log", 7 + n * 10 ** 500))
        self.bars(takes_log, curve, P, P, ("log", True))
        self.bars(takes_log, curve, P, (), ("log", False))
        self.takes(takes_log, curve, (), (), ("log", 0))
        self.check_bent(takes_log, curve, P, P, ("log", 1))

    def test_none_by_all_rows(self):
        for curve in ((5, 1, 0), (7, 0, 1), (13, 0, 1)):
            paper = number_paper(curve)
            G, n, H, m = paper[1]
            rows = {}
            for i, j in itertools.product(range(n), range(m)):
                rows[slow.added(curve, slow.multiplied(curve, i, G), slow.multiplied(curve, j, H))] = (i, j)
            points = slow.points(curve)[::3]
            for P, Q in itertools.product(points, repeat=2):
                (i, j), (u, v) = rows[P], rows[Q]
                multiple = any(slow.multiplied(curve, k, P) == Q for k in range(n))
                barred = False
                for s, t, M in itertools.product(range(-1, 4), range(-1, 4), range(-1, n + 2)):
                    fits = M >= 2 and not any(x % M for x in (s * n, t * m, s * i + t * j)) and (s * u + t * v) % M != 0
                    self.assertIs(takes_log(curve, P, Q, ("none", paper, (i, j), (u, v), s, t, M)), fits)
                    barred = barred or fits
                if multiple:
                    self.assertFalse(barred)

    def test_each_condition_of_none(self):
        for curve, P, Q in (((5, 1, 0), (0, 0), (2, 0)), ((7, 0, 1), (0, 1), (3, 0)), ((10007, 3, 5), None, None)):
            if P is None:
                G = number_paper(curve)[1][0]
                P, Q = point_multiple(curve, 5, G), G
            told = log_paper(curve, P, Q)
            self.assertEqual(told[0], "none")
            _, paper, (i, j), (u, v), s, t, M = told
            _, n, _, m = paper[1]
            self.takes(takes_log, curve, P, Q, told)
            # Other rows of the same points, and multiples of the bar.
            for c, d in ((1, 0), (0, 1), (-3, 5), (10 ** 40, -10 ** 40)):
                self.takes(takes_log, curve, P, Q, ("none", paper, (i + c * n, j + d * m), (u, v), s, t, M))
                self.takes(takes_log, curve, P, Q, ("none", paper, (i, j), (u + c * n, v + d * m), s, t, M))
                self.takes(takes_log, curve, P, Q, ("none", paper, (i, j), (u, v), s + c * M, t + d * M, M))
                self.takes(takes_log, curve, P, Q, ("none", paper, (i, j), (u, v), 7 * s, 7 * t, 7 * M))
            wrong = [((i + 1, j), (u, v), s, t, M), ((i, j), (u + 1, v), s, t, M), ((u, v), (i, j), s, t, M),
                     ((i, j), (i, j), s, t, M), ((i, j), (u, v), s, t, 1), ((i, j), (u, v), s, t, 0),
                     ((i, j), (u, v), s, t, -M), ((i, j), (u, v), 0, 0, M), ((i, j), (u, v), s, t, M * 10 ** 9 + 1)]
            if m > 1:
                wrong += [((i, j + 1), (u, v), s, t, M), ((i, j), (u, v + 1), s, t, M)]
            for items in wrong:
                self.bars(takes_log, curve, P, Q, ("none", paper) + items)
            for other in (number_paper((7, 1, 1)), None, ("number",), paper[:2] + (paper[1],)):
                self.bars(takes_log, curve, P, Q, ("none", other, (i, j), (u, v), s, t, M))
            self.bars(takes_log, curve, Q, P, told)
            self.bars(takes_log, curve, P, P, told)
            self.bars(takes_log, curve, Q, Q, told)
            self.bars(takes_log, curve, P, (), told)
            self.check_bent(takes_log, curve, P, Q, told)

    def test_great(self):
        for curve in GREAT:
            P, Q = point_of(curve), point_of(curve, 20)
            for R in (Q, point_multiple(curve, 12345, P)):
                self.takes(takes_log, curve, P, R, log_paper(curve, P, R))
            self.assertEqual(log_paper(curve, P, P), ("log", 1 % order_paper(curve, P)[1]))

    def test_values(self):
        for value in NO_PAPERS:
            for P, Q in (((0, 0), (2, 0)), ((), (0, 0)), ((0, 0), ())):
                self.bars(takes_log, (5, 1, 0), P, Q, value)


KINDS = (("zero",), ("unlike",), ("power",))


def slow_kind(one, two):
    """Return the paper of two curves that are not alike, by the cases of point 9.3, None if they are."""
    p, a, b = one
    _, c, d = two
    if any(c == u ** 4 * a % p and d == u ** 6 * b % p for u in range(1, p)):
        return None
    if bool(a) != bool(c) or bool(b) != bool(d):
        return ("zero",)
    if a and b and (a ** 3 * d ** 2 - c ** 3 * b ** 2) % p:
        return ("unlike",)
    return ("power",)


class Alike(Judged):
    def test_all_kinds(self):
        met = set()
        for p in (5, 7, 11, 13):
            curves = slow.curves(p)
            for one in curves[::5] + [curve for curve in curves if 0 in curve]:
                for two in curves:
                    kind = slow_kind(one, two)
                    paper = alike_paper(one, two)
                    self.takes(takes_curves, one, two, paper)
                    for other in KINDS:
                        self.assertIs(takes_curves(one, two, other), other == kind, (one, two))
                    for u in range(-1, p + 2):
                        fits = 1 <= u < p and two == (p, u ** 4 * one[1] % p, u ** 6 * one[2] % p)
                        self.assertIs(takes_curves(one, two, ("same", u)), fits)
                    self.assertEqual(paper[0] if kind is None else paper, "same" if kind is None else kind)
                    met.add(kind)
        self.assertEqual(met, set(KINDS) | {None})

    def test_power_for_each_pattern(self):
        # Primes that are 1, 5, 7 and 11 modulo 12, with squares that are no fourth and no sixth powers.
        # In the last three 9 divides p - 1, and 2 is a cube modulo two of them.
        for p in (37, 29, 31, 23, 19, 109, 127):
            for one, patterns in (((p, 1, 0), 4), ((p, 0, 1), 6), ((p, 3, 2), 2)):
                for d in range(1, p):
                    two = (p, one[1] * d * d % p, one[2] * d ** 3 % p) if patterns == 2 else (
                        p, one[1] * d % p, one[2] * d % p)
                    if (4 * two[1] ** 3 + 27 * two[2] ** 2) % p == 0:
                        continue
                    kind = slow_kind(one, two)
                    told = alike_paper(one, two)
                    self.takes(takes_curves, one, two, told)
                    self.assertEqual(told[0], "same" if kind is None else kind[0])

    def test_great(self):
        chance = random.Random(161)
        # Primes less 1 that 3 divides very often, often, once and not at all.
        for p in (258280327, 86093443, 39367, 9999999967, 9999999929, 9998244353, 1000003, 7340033, 163, 487, 1459):
            if not slow.is_prime(p):
                continue
            for one in ((p, 0, 5), (p, 7, 0), (p, 3, 8), (p, 0, p - 1), (p, p - 2, 0)):
                for _ in range(3):
                    u = chance.randrange(1, p)
                    two = (p, u ** 4 * one[1] % p, u ** 6 * one[2] % p)
                    paper = alike_paper(one, two)
                    self.assertEqual(paper[0], "same")
                    self.takes(takes_curves, one, two, paper)
                    self.takes(takes_curves, one, two, ("same", u))
                    self.bars(takes_curves, one, two, ("same", u + p))
                    self.bars(takes_curves, one, two, ("same", u - p))
                    for kind in KINDS:
                        self.bars(takes_curves, one, two, kind)
                for d in (2, 3, 5, 6, 7):
                    two = (p, one[1] * d * d % p, one[2] * d ** 3 % p)
                    told = alike_paper(one, two)
                    self.takes(takes_curves, one, two, told)
                    if told[0] != "same":
                        for kind in KINDS:
                            self.assertIs(takes_curves(one, two, kind), told == kind)

    def test_bent(self):
        for one, two in (((7, 1, 1), (7, 2, 1)), ((7, 1, 1), (7, 1, 0)), ((7, 1, 1), (7, 1, 3)), ((7, 1, 1), (7, 2, 6)),
                         ((7, 1, 1), (7, 1, 1))):
            self.check_bent(takes_curves, one, two, alike_paper(one, two))
            for value in NO_PAPERS:
                if one != two:
                    self.bars(takes_curves, one, two, value)


class Errors(unittest.TestCase):
    def test_no_curves(self):
        for value in NO_CURVES:
            malformed(self, number_paper, value)
            for point in ((), (0, 1), None):
                malformed(self, order_paper, value, point)
                malformed(self, log_paper, value, point, ())
                malformed(self, log_paper, value, (), point)
            malformed(self, alike_paper, value, (7, 1, 1))
            malformed(self, alike_paper, (7, 1, 1), value)
            malformed(self, alike_paper, value, value)

    def test_no_points(self):
        for value in NO_POINTS:
            malformed(self, order_paper, (7, 1, 1), value)
            malformed(self, log_paper, (7, 1, 1), value, ())
            malformed(self, log_paper, (7, 1, 1), (), value)
            malformed(self, log_paper, (7, 1, 1), (0, 1), value)

    def test_unlike_primes(self):
        for one, two in itertools.permutations(((7, 1, 1), (5, 1, 1), (11, 1, 1), (9999999967, 1, 1)), 2):
            malformed(self, alike_paper, one, two)


if __name__ == "__main__":
    unittest.main()
