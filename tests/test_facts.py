"""Point 0.4: the main facts, each told by parts of the program that know nothing of one another."""

import itertools
import unittest

from classledger.census import curve_census
from classledger.classes import class_list, class_product
from classledger.curvechecker import takes_curves, takes_number
from classledger.curvepapers import alike_paper, number_paper
from classledger.curves import all_points
from classledger.definite import hurwitz
from classledger.formchecker import takes_minus, takes_same, takes_square, takes_value
from classledger.formpapers import minus_paper, same_paper, square_paper, value_paper
from classledger.forms import is_discriminant
from classledger.genera import genus_of
from classledger.graphs import brandt_table
from classledger.hecke import characteristic, hecke_matrix, hecke_trace
from classledger.level import dimension, first_unlike
from classledger.serieschecker import takes_goes, takes_trace
from classledger.seriespapers import goes_paper, trace_paper
from classledger.signs import fundamental, number_by_signs
from classledger.squares import ways_three
from classledger.traces import characteristic_by_classes, trace_by_classes
from tests import slow


def by_forms(n):
    """Return 12 H(n), by reduced forms."""
    return hurwitz(n)


def by_squares(n):
    """Return 12 H(n), by the ways of three squares: 12 H(4 m) is those of m and twice 12 H(m)."""
    if n < 1 or n % 4:
        return None
    twice = by_squares(n // 4) if n // 4 % 4 == 0 else 0 if n // 4 % 4 in (1, 2) else None
    return None if twice is None else ways_three(n // 4) + 2 * twice


def by_signs(n):
    """Return 12 H(n), by sums of residue signs of the fundamental discriminant, and the primes of the conductor."""
    D, f = fundamental(-n)
    units = {-3: 6, -4: 4}.get(D, 2)
    total = 0
    for g in slow.divisors(f):
        product = g
        for l, _ in slow.factors(g):
            product = product // l * (l - slow.sign(D, l))
        total += product
    return 24 * number_by_signs(D) * total // units


def by_curves(p):
    """Return the dict from t to 12 H(4 p - t^2), by the curves over p: the sum of 24 / w over the classes."""
    told = {}
    for _, _, w, t in curve_census(p):
        told[t] = told.get(t, 0) + 24 // w
    return told


class Numbers(unittest.TestCase):
    def test_forms_and_signs(self):
        for n in range(3, 1200):
            if n % 4 in (0, 3):
                self.assertEqual(by_forms(n), by_signs(n), n)

    def test_forms_and_squares(self):
        told = 0
        for n in range(4, 3000, 4):
            number = by_squares(n)
            if number is not None:
                self.assertEqual(by_forms(n), number, n)
                told += 1
        self.assertGreater(told, 400)

    def test_forms_and_curves(self):
        for p in (5, 7, 11, 13, 17, 19, 23, 41, 61):
            told = by_curves(p)
            for t in range(-2 * p, 2 * p + 1):
                number = by_forms(4 * p - t * t) if t * t < 4 * p else 0
                self.assertEqual(told.get(t, 0), number, (p, t))

    def test_forms_and_loops(self):
        # The sum over t of the numbers of point 10.8, with 12 H halved: 24 times the loops.
        for p in (5, 7, 11, 13, 37, 61, 101):
            for n in (1, 2, 3, 4, 6, 8, 9, 12):
                total = 0
                for t in range(-2 * n, 2 * n + 1):
                    m = 4 * n - t * t
                    if m == 0:
                        total += p - 1
                    elif m > 0:
                        D, c = fundamental(-m)
                        if c % p == 0:
                            m, (D, c) = m // (p * p), fundamental(-m // (p * p))
                        total += by_forms(m) * (1 - slow.sign(D, p))
                self.assertEqual(24 * sum(row[i] for i, row in enumerate(brandt_table(p, n))), total)

    def test_forms_and_traces(self):
        # Step by step: the trace of the weight 4, where there is none, tells 12 H(4 n) out of the others.
        for n in range(1, 80):
            rest = sum((t * t - n) * by_forms(4 * n - t * t) for t in range(-2 * n, 2 * n + 1) if t)
            rest += 12 * sum(min(c, n // c) ** 3 for c in slow.divisors(n)) + 24 * hecke_trace(4, n)
            self.assertEqual(n * by_forms(4 * n), rest)


class Facts(unittest.TestCase):
    def test_traces_are_sums_of_class_numbers(self):
        for k, n in itertools.product((12, 16, 24, 28, 36), (1, 2, 3, 5, 8, 12)):
            self.assertEqual(hecke_trace(k, n), trace_by_classes(k, n))
            self.assertIs(takes_trace(k, n, trace_paper(k, n)), True)
        for k, p in ((12, 2), (24, 3), (28, 5), (36, 2)):
            self.assertEqual(characteristic(hecke_matrix(k, p)), characteristic_by_classes(k, p))

    def test_equivalent_and_values(self):
        for D in (-84, -71, 60, 145):
            for f, g in itertools.product(class_list(D), repeat=2):
                paper = same_paper(f, g)
                self.assertIs(takes_same(f, g, paper), True)
                self.assertEqual(paper[0] == "same", f == g)
            for f in class_list(D):
                for n in range(1, 30):
                    paper = value_paper(f, n)
                    self.assertIs(takes_value(f, n, paper), True)
                    if paper[0] == "value":
                        self.assertEqual(slow.at(f, *paper[1:]), n)
                    elif D < 0:
                        pairs = itertools.product(range(-30, 31), repeat=2)
                        self.assertFalse(any(slow.at(f, x, y) == n and slow.gcd(x, y) == 1 for x, y in pairs))

    def test_units_and_squares(self):
        for D in range(2, 300):
            if is_discriminant(D):
                paper = minus_paper(D)
                self.assertIs(takes_minus(D, paper), True)
                if paper[0] == "none":
                    self.assertFalse(any(slow.is_square(D * u * u - 4) for u in range(1, 15)))
        for D in (-84, -260, -420, 60, 145, 520):
            squares = {class_product(g, g) for g in class_list(D)}
            for f in class_list(D):
                paper = square_paper(f)
                self.assertIs(takes_square(f, paper), True)
                self.assertEqual({paper[0] == "root", f in squares, set(genus_of(f)) == {1}}, {f in squares})

    def test_curves(self):
        for one in slow.curves(7):
            self.assertIs(takes_number(one, number_paper(one)), True)
            self.assertEqual(number_paper(one)[1][1] * number_paper(one)[1][3], len(all_points(one)))
            for two in slow.curves(7):
                paper = alike_paper(one, two)
                self.assertIs(takes_curves(one, two, paper), True)
                changes = [u for u in range(1, 7) if two == (7, u ** 4 * one[1] % 7, u ** 6 * one[2] % 7)]
                self.assertEqual(paper[0] == "same", changes != [])

    def test_series(self):
        for k in (4, 12, 24, 26):
            d = dimension(k) - 1
            for f in itertools.product((0, 1), repeat=d + 3):
                paper = goes_paper(f, k)
                self.assertIs(takes_goes(f, k, paper), True)
                self.assertEqual(paper[2] if paper[0] == "bar" else None, first_unlike(f, k))


if __name__ == "__main__":
    unittest.main()
