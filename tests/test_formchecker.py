"""Points 15.1 to 15.7: the judges of the papers of forms, and what their makers tell."""

import itertools
import math
import random
import unittest

from classledger.compose import composing_rows, composition
from classledger.formchecker import (
    takes_classes, takes_composed, takes_minus, takes_same, takes_square, takes_unit, takes_value)
from classledger.formpapers import (
    classes_paper, composed_paper, minus_paper, same_paper, square_paper, unit_paper, value_paper)
from classledger.forms import is_discriminant
from tests import slow
from tests.papers import Judged
from tests.test_forms import random_matrix

UNIT = ((1, 0), (0, 1))
TURNED = ((1, 0), (0, -1))
SMALL = [D for D in range(-200, 201) if is_discriminant(D)]


def inverse(m):
    """Return the inverse of a matrix of the determinant 1."""
    return ((m[1][1], -m[0][1]), (-m[1][0], m[0][0]))


def negative(m):
    """Return the negative of a matrix."""
    return tuple(tuple(-item for item in row) for row in m)


def step_matrix(t):
    """Return the matrix of a step."""
    return ((0, -1), (1, t))


def to_near(f):
    """Return a form that is reduced or on a cycle, and a matrix that moves f to it, in small steps."""
    m = UNIT
    if slow.disc(f) > 0:
        while not slow.on_cycle(f):
            f, t = slow.step(f)
            m = slow.times(m, step_matrix(t))
        return f, m
    while not (-f[0] < f[1] <= f[0] < f[2] or 0 <= f[1] <= f[0] == f[2]):
        if -f[0] < f[1] <= f[0]:
            n = ((0, -1), (1, 0))
        else:
            n = ((1, 1 if f[1] <= -f[0] else -1), (0, 1))
        f, m = slow.move(f, n), slow.times(m, n)
    return f, m


def turns_from(f):
    """Return the turns of the cycle of a form on one."""
    turns = []
    g = f
    while not turns or g != f:
        g, t = slow.step(g)
        turns.append(t)
    return tuple(turns)


def starts(f, m):
    """Return for each form of the cycle of f moved by m the matrix that leads f to it, and its turns."""
    told = []
    g = slow.move(f, m)
    for t in turns_from(g):
        told.append((m, turns_from(g)))
        g, m = slow.move(g, step_matrix(t)), slow.times(m, step_matrix(t))
    return told


def all_forms(D):
    """Return a form of each class of D, primitive or not: all reduced ones, or all on cycles."""
    if D < 0:
        return slow.reduced(D)
    s = slow.floor_root(D)
    told = []
    for b in range(1, s + 1):
        for a in range(-s, s + 1):
            if a and (b * b - D) % (4 * a) == 0 and slow.on_cycle((a, b, (b * b - D) // (4 * a))):
                told.append((a, b, (b * b - D) // (4 * a)))
    return told


def primitive(D):
    """Return a form of each class of D."""
    return [f for f in slow.primitive(D)]


class Same(Judged):
    def test_papers_of_the_maker(self):
        chance = random.Random(152)
        for D in SMALL:
            forms = all_forms(D)[:14]
            for f, g in itertools.product(forms, repeat=2):
                m = random_matrix(chance, 3, 3)
                h = slow.move(g, m)
                paper = same_paper(f, h)
                self.assertEqual(paper[0], "same" if slow.told(f) == slow.told(g) else "apart")
                self.takes(takes_same, f, h, paper)

    def test_same(self):
        for f in ((2, 1, 3), (1, 0, 1), (3, 3, 3), (2, 0, 2), (1, 6, -1), (3, 4, -2), (6, 8, -4)):
            chance = random.Random(153)
            for _ in range(10):
                m = random_matrix(chance, 4, 5)
                g = slow.move(f, m)
                self.takes(takes_same, f, g, ("same", m))
                self.takes(takes_same, f, g, ("same", negative(m)))
                self.takes(takes_same, g, f, ("same", inverse(m)))
                self.bars(takes_same, f, (g[0], -g[1], g[2]) if g[1] else (g[2], 0, g[0] + 1), ("same", m))
                self.bars(takes_same, f, slow.move(g, ((1, 1), (0, 1))), ("same", m))
                # The determinant -1 leads to the form with the other sign in the middle.
                self.bars(takes_same, f, slow.move(g, TURNED), ("same", slow.times(m, TURNED)))
                self.bars(takes_same, f, tuple(4 * item for item in g), ("same", slow.times(m, ((2, 0), (0, 2)))))
                self.check_bent(takes_same, f, g, ("same", m))

    def test_great_matrices(self):
        f = (2, 1, 3)
        m = ((1, 10 ** 80), (0, 1))
        self.takes(takes_same, f, f, ("same", slow.times(m, inverse(m))))
        self.bars(takes_same, f, f, ("same", m))
        n = ((10 ** 200 + 1, 10 ** 200), (1, 1))
        self.bars(takes_same, f, (1, 1, 6), ("same", n))
        self.bars(takes_same, (1, 6, -1), (1, 6, -1), ("apart", n, (6,), n))
        self.bars(takes_same, f, (1, 1, 6), ("apart", n, UNIT))

    def test_definite_apart(self):
        f, g = (2, 1, 3), (1, 1, 6)
        chance = random.Random(154)
        for _ in range(20):
            m, n = random_matrix(chance, 3, 4), random_matrix(chance, 3, 4)
            one, two = slow.move(f, m), slow.move(g, n)
            self.takes(takes_same, one, two, ("apart", inverse(m), inverse(n)))
            self.takes(takes_same, one, two, ("apart", negative(inverse(m)), inverse(n)))
            self.takes(takes_same, one, slow.move((2, -1, 3), n), ("apart", inverse(m), inverse(n)))
            # One and the same reduced form; forms that are not reduced; the determinant -1.
            self.bars(takes_same, one, slow.move(f, n), ("apart", inverse(m), inverse(n)))
            for k in (((1, 1), (0, 1)), ((0, -1), (1, 0)), ((1, 0), (3, 1))):
                self.bars(takes_same, one, two, ("apart", slow.times(inverse(m), k), inverse(n)))
                self.bars(takes_same, one, two, ("apart", inverse(m), slow.times(inverse(n), k)))
            self.bars(takes_same, one, slow.move(f, n), ("apart", slow.times(inverse(m), TURNED), inverse(n)))
            self.bars(takes_same, one, slow.move(f, n), ("apart", inverse(m), slow.times(inverse(n), TURNED)))
            self.bars(takes_same, one, two, ("same", inverse(m)))
            self.bars(takes_same, one, two, ("apart", inverse(m), (1,), inverse(n)))
            self.check_bent(takes_same, one, two, ("apart", inverse(m), inverse(n)))

    def test_reduced_at_the_edges(self):
        # (2, -2, 3) and (2, -1, 2) are not reduced, though they lie beside reduced forms.
        self.bars(takes_same, (2, 2, 3), (1, 0, 5), ("apart", ((1, -1), (0, 1)), UNIT))
        self.takes(takes_same, (2, 2, 3), (1, 0, 5), ("apart", UNIT, UNIT))
        self.bars(takes_same, (2, 1, 2), (1, 1, 4), ("apart", ((0, -1), (1, 0)), UNIT))
        self.takes(takes_same, (2, 1, 2), (1, 1, 4), ("apart", UNIT, UNIT))

    def test_indefinite_apart(self):
        for D in (12, 21, 40, 60, 136, 145, 229, 316):
            cycles = slow.cycles(D)
            for one, two in itertools.permutations(cycles[:3], 2):
                chance = random.Random(D)
                m, n = random_matrix(chance, 3, 3), random_matrix(chance, 3, 3)
                f, g = slow.move(one[0], m), slow.move(two[0], n)
                for k, turns in starts(f, inverse(m)):
                    self.takes(takes_same, f, g, ("apart", k, turns, inverse(n)))
                    self.takes(takes_same, f, g, ("apart", negative(k), turns, negative(inverse(n))))
                    self.bars(takes_same, f, g, ("apart", k, turns + turns, inverse(n)))
                    self.bars(takes_same, f, g, ("apart", k, (), inverse(n)))
                    for at in range(len(turns)):
                        self.bars(takes_same, f, g, ("apart", k, turns[:at] + turns[at + 1:], inverse(n)))
                        self.bars(takes_same, f, g, ("apart", k, turns[:at + 1] + turns[at:], inverse(n)))
                        for other in (-turns[at], turns[at] + 1, 0):
                            self.bars(takes_same, f, g, ("apart", k, turns[:at] + (other,) + turns[at + 1:], inverse(n)))
                        if turns[at:] + turns[:at] != turns:
                            self.bars(takes_same, f, g, ("apart", k, turns[at:] + turns[:at], inverse(n)))
                for l, _ in starts(g, inverse(n)):
                    self.takes(takes_same, f, g, ("apart", inverse(m), turns_from(one[0]), l))
                # No form of the cycle of f itself, and none that is on no cycle.
                for l, _ in starts(f, inverse(m)):
                    self.bars(takes_same, f, f, ("apart", inverse(m), turns_from(one[0]), l))
                for k in (((1, 20), (0, 1)), TURNED, ((1, 0), (20, 1))):
                    self.bars(takes_same, f, g, ("apart", inverse(m), turns_from(one[0]), slow.times(inverse(n), k)))
                    self.bars(takes_same, f, g, ("apart", slow.times(inverse(m), k), turns_from(one[0]), inverse(n)))
                self.bars(takes_same, f, g, ("apart", inverse(m), inverse(n)))
                self.check_bent(takes_same, f, g, ("apart", inverse(m), turns_from(one[0]), inverse(n)))

    def test_papers_of_other_forms(self):
        chance = random.Random(158)
        for D, other in ((-23, -31), (60, 40), (145, 136)):
            f, g, h, k = (slow.move(f, random_matrix(chance, 3, 4)) for f in primitive(D)[:2] + primitive(other)[:2])
            self.bars(takes_same, h, k, same_paper(f, g))
            self.bars(takes_same, f, g, same_paper(h, k))
            self.bars(takes_same, f, f, same_paper(f, g))
            self.bars(takes_same, g, f, same_paper(f, g))
        self.bars(takes_same, (1, 1, 6), (2, 1, 3), same_paper((1, 6, -1), (2, 4, -3)))
        self.bars(takes_same, (1, 6, -1), (2, 4, -3), same_paper((1, 1, 6), (2, 1, 3)))

    def test_great_discriminants(self):
        f, g = (10 ** 59 + 1, 3, 10 ** 58 + 7), (10 ** 59 + 3, 1, 10 ** 58)
        D = slow.disc(f)
        self.takes(takes_same, f, slow.move(f, ((1, 1), (0, 1))), ("same", ((1, 1), (0, 1))))
        self.takes(takes_same, (1, 1, (1 - D) // 4), f, ("apart", UNIT, ((0, -1), (1, 0))))
        self.bars(takes_same, (1, 1, (1 - D) // 4), f, ("apart", UNIT, UNIT))
        self.assertLess(slow.disc(g), 0)

    def test_values(self):
        for f, g in (((2, 1, 3), (2, 1, 3)), ((2, 1, 3), (1, 1, 6)), ((1, 6, -1), (1, 6, -1)), ((1, 6, -1), (2, 4, -3))):
            self.check_values(takes_same, f, g)


class Values(Judged):
    def test_papers_of_the_maker(self):
        for D in [D for D in SMALL if abs(D) < 90]:
            for f in all_forms(D)[:6]:
                for n in list(range(-12, 13)) + [24, 35, 36]:
                    if n == 0 or (n < 0 and D < 0):
                        continue
                    paper = value_paper(f, n)
                    self.takes(takes_value, f, n, paper)
                    # A root is told if a form with the first item n and this root is equivalent.
                    told = any((b * b - D) % (4 * n) == 0 and slow.told((n, b, (b * b - D) // (4 * n))) == slow.told(f)
                               for b in range(2 * abs(n)))
                    self.assertEqual(paper[0], "value" if told else "none")

    def test_value(self):
        for f in ((2, 1, 3), (1, 0, 1), (2, 2, 2), (1, 6, -1), (3, 4, -2)):
            for x, y in itertools.product(range(-6, 7), repeat=2):
                n = slow.at(f, x, y)
                if n:
                    self.assertIs(takes_value(f, n, ("value", x, y)), math.gcd(x, y) == 1)
                    self.assertIs(takes_value(f, n + 1 if n != -1 else 1, ("value", x, y)), False)
                    self.bars(takes_value, f, n, ("value", x, y, 0))
                    self.bars(takes_value, f, n, ("value", (x, y)))
        self.bars(takes_value, (1, 0, 1), 1, ("value", True, 0))
        self.check_bent(takes_value, (2, 1, 3), 6, ("value", 1, 1))

    def test_none(self):
        for f, n in self.barred():
            D = slow.disc(f)
            roots = [b for b in range(2 * abs(n)) if (b * b - D) % (4 * n) == 0]
            paper = value_paper(f, n)
            self.assertEqual((paper[0], [b for b, _ in paper[1]]), ("none", roots))
            rows = paper[1]
            self.takes(takes_value, f, n, paper)
            for at in range(len(rows)):
                b, below = rows[at]
                for wrong in ((b + 1, below), (b - 2 * abs(n), below), (b + 2 * abs(n), below), (b,), (b, below, below),
                              [b, below], (b, ("same", UNIT)), (b, ("value", 1, 0)), (b, below[:-1]), below):
                    self.bars(takes_value, f, n, ("none", rows[:at] + (wrong,) + rows[at + 1:]))
                self.bars(takes_value, f, n, ("none", rows[:at] + rows[at + 1:]))
                self.bars(takes_value, f, n, ("none", rows[:at] + (rows[at],) + rows[at:]))
            if len(rows) > 1:
                self.bars(takes_value, f, n, ("none", rows[::-1]))
            self.check_bent(takes_value, f, n, paper)
            # Papers of two roots exchanged: each root needs the matrix of its own form.
            for at in range(1, len(rows)):
                (b, one), (c, two) = rows[at - 1:at + 1]
                if one[-1] not in (two[-1], negative(two[-1])):
                    mixed = rows[:at - 1] + ((b, two), (c, one)) + rows[at + 1:]
                    self.assertIs(takes_value(f, n, ("none", mixed)), self.holds_mixed(f, n, mixed))

    def holds_mixed(self, f, n, rows):
        """Tell whether the last matrix of each row leads the form of its root to a form that is reduced or on a cycle."""
        told = []
        for b, paper in rows:
            g = slow.move((n, b, (b * b - slow.disc(f)) // (4 * n)), paper[-1])
            told.append(to_near(g)[0] == g)
        return all(told)

    def barred(self):
        """Return pairs of a form and an integer with roots, none of which is told."""
        told = []
        for f in ((1, 1, 6), (2, 1, 3), (1, 0, 5), (2, 2, 3), (1, 6, -1), (1, 0, -10), (2, 4, -3), (2, 2, 2), (1, 0, -15)):
            found = []
            for n in itertools.chain(range(1, 60), range(-1, -30, -1)):
                D = slow.disc(f)
                forms = [(n, b, (b * b - D) // (4 * n)) for b in range(2 * abs(n)) if (b * b - D) % (4 * n) == 0]
                if (n > 0 or D > 0) and slow.told(f) not in [slow.told(g) for g in forms]:
                    found.append((len(forms), f, n))
            # Those with the most roots, and one without any.
            told.extend((f, n) for _, f, n in sorted(found)[-4:] + sorted(found)[:1])
        return told

    def test_roots_of_one_and_zero(self):
        for f, n, root in (((2, 1, 3), 1, 1), ((2, 4, -3), 1, 0), ((2, 2, 3), 1, 0), ((2, 1, 2), 1, 1)):
            paper = value_paper(f, n)
            self.assertEqual([b for b, _ in paper[1]], [root])
            self.check_bent(takes_value, f, n, paper)

    def test_none_of_another_maker(self):
        # Other forms of the cycle, other matrices.
        f, n = (1, 0, -10), 3
        rows = []
        for b, below in value_paper(f, n)[1]:
            g = (n, b, (b * b - 40) // (4 * n))
            told, m = to_near(f)
            k, turns = starts(f, m)[1]
            rows.append((b, ("apart", negative(k), turns, to_near(g)[1])))
        self.takes(takes_value, f, n, ("none", tuple(rows)))

    def test_a_told_root_cannot_be_barred(self):
        # A form and its own matrices: the rows of all roots but the told one hold.
        f, n = (2, 1, 3), 6
        rows = []
        for b in (1, 5, 7, 11):
            g = (n, b, (b * b + 23) // 24)
            rows.append((b, ("apart", to_near(f)[1], to_near(g)[1])))
        self.bars(takes_value, f, n, ("none", tuple(rows)))
        for at in range(4):
            self.bars(takes_value, f, n, ("none", tuple(rows[:at] + rows[at + 1:])))

    def test_values(self):
        for f, n in (((2, 1, 3), 6), ((2, 1, 3), 1), ((1, 6, -1), 2), ((1, 6, -1), -1)):
            self.check_values(takes_value, f, n)

    def test_great(self):
        for f, n in (((2, 1, 3), 10000), ((1, 0, -10), -9999), ((1, 1, -200001), 9240), ((2, 2, 10 ** 11), 7560),
                     ((1, 0, -249999), 10000)):
            self.takes(takes_value, f, n, value_paper(f, n))


class Units(Judged):
    def test_papers_of_the_maker(self):
        for D in range(2, 900):
            if is_discriminant(D):
                paper = unit_paper(D)
                self.takes(takes_unit, D, paper)
                if D < 250:
                    told = next((slow.floor_root(D * u * u + 4), u) for u in itertools.count(1)
                                if slow.is_square(D * u * u + 4)) if self.small(D) else paper[1:3]
                    self.assertEqual(paper[1:3], told)
                self.assertEqual(paper[1] ** 2 - D * paper[2] ** 2, 4)

    def small(self, D):
        """Tell whether the least unit is found soon by trying."""
        return unit_paper(D)[2] < 60

    def test_each_condition(self):
        for D in (5, 8, 12, 13, 21, 40, 60, 61, 136):
            _, t, u, m, turns = unit_paper(D)
            f = slow.principal(D)
            for k, told in starts(f, m):
                self.takes(takes_unit, D, ("unit", t, u, k, told))
                self.takes(takes_unit, D, ("unit", t, u, negative(k), told))
                for at in range(len(told)):
                    self.bars(takes_unit, D, ("unit", t, u, k, told[:at] + told[at + 1:]))
                    self.bars(takes_unit, D, ("unit", t, u, k, told[:at + 1] + told[at:]))
                    self.bars(takes_unit, D, ("unit", t, u, k, told[:at] + (told[at] + 1,) + told[at + 1:]))
            # The square of the unit, with the cycle gone round twice.
            square = ((t * t + D * u * u) // 2, t * u)
            self.bars(takes_unit, D, ("unit",) + square + (m, turns + turns))
            for pair in (square, (-t, u), (t, -u), (-t, -u), (2, 0), (t + 1, u), (t, u + 1), (u, t), (0, 0)):
                if pair != (t, u):
                    self.bars(takes_unit, D, ("unit",) + pair + (m, turns))
            self.bars(takes_unit, D, ("unit", t, u, m, ()))
            for k in (UNIT, TURNED, slow.times(m, TURNED), slow.times(m, ((1, 9), (0, 1)))):
                fits = slow.det(k) == 1 and slow.on_cycle(slow.move(f, k)) and turns_from(slow.move(f, k)) == turns
                self.assertIs(takes_unit(D, ("unit", t, u, k, turns)), fits)
            self.bars(takes_unit, D, ("minus", t, u))
            self.check_bent(takes_unit, D, ("unit", t, u, m, turns))
            for other in (5, 8, 12, 13, 21, 40, 60, 61, 136):
                if other != D:
                    self.bars(takes_unit, other, ("unit", t, u, m, turns))

    def test_another_cycle(self):
        # The unit comes out of each cycle, but the paper goes with the principal form.
        for D in (60, 145, 229):
            t, u = unit_paper(D)[1:3]
            for cycle in slow.cycles(D):
                self.bars(takes_unit, D, ("unit", t, u, UNIT, turns_from(cycle[0])))

    def test_great(self):
        for D in (999997, 999989, 10 ** 6 - 4, 950941, 10 ** 6):
            if is_discriminant(D):
                paper = unit_paper(D)
                self.takes(takes_unit, D, paper)
                self.bars(takes_unit, D, paper[:1] + (paper[1] + 1,) + paper[2:])

    def test_values(self):
        for D in (5, 12, 61):
            self.check_values(takes_unit, D)
            self.check_values(takes_minus, D)


class Minus(Judged):
    def test_papers_of_the_maker(self):
        for D in range(2, 900):
            if is_discriminant(D):
                paper = minus_paper(D)
                self.takes(takes_minus, D, paper)
                cycle = slow.cycle(slow.near(slow.principal(D)))
                self.assertEqual(paper[0], "minus" if -1 in [a for a, _, _ in cycle] else "none")

    def test_minus(self):
        for D in (5, 8, 13, 40, 61):
            _, t, u = minus_paper(D)
            self.check_bent(takes_minus, D, ("minus", t, u))
            # The third power is a solution as well.
            n = (t * t + D * u * u) // 2
            third = ((t * n + D * u * t * u) // 2, (t * t * u + u * n) // 2)
            self.assertEqual(third[0] ** 2 - D * third[1] ** 2, -4)
            self.takes(takes_minus, D, ("minus",) + third)
            for pair in ((-t, u), (t, -u), (u, t) if t != u else (0, 1), (n, t * u), (t + 1, u), (0, 0)):
                self.bars(takes_minus, D, ("minus",) + pair)
            self.bars(takes_minus, D + 4 if is_discriminant(D + 4) else D + 8, ("minus", t, u))
            # A whole cycle that meets a form with the first item -1.
            f, m = to_near(slow.principal(D))
            for k, turns in starts(slow.principal(D), m):
                self.bars(takes_minus, D, ("none", k, turns))

    def test_none(self):
        for D in (12, 21, 24, 28, 60, 136, 205):
            _, m, turns = minus_paper(D)
            self.check_bent(takes_minus, D, ("none", m, turns))
            for k, told in starts(slow.principal(D), m):
                self.takes(takes_minus, D, ("none", k, told))
                self.takes(takes_minus, D, ("none", negative(k), told))
                self.bars(takes_minus, D, ("none", k, told + told))
                self.bars(takes_minus, D, ("none", slow.times(k, ((1, 9), (0, 1))), told))
                self.bars(takes_minus, D, ("none", slow.times(k, TURNED), told))
                for at in range(len(told)):
                    self.bars(takes_minus, D, ("none", k, told[:at] + told[at + 1:]))
            for t, u in itertools.product(range(1, 12), repeat=2):
                self.bars(takes_minus, D, ("minus", t, u))


class Composed(Judged):
    def test_papers_of_the_maker(self):
        for D in SMALL:
            forms = primitive(D)
            for f, g in itertools.product(forms[:5], repeat=2):
                paper = composed_paper(f, g)
                told = slow.product(f, g)
                for h in forms:
                    self.assertIs(takes_composed(f, g, h, paper), h == told)

    def test_askew(self):
        chance = random.Random(155)
        for D in (-84, -71, 60, 145):
            f, g = (slow.move(primitive(D)[-1], random_matrix(chance, 3, 4)) for _ in range(2))
            self.takes(takes_composed, f, g, slow.product(slow.near(f), slow.near(g)), composed_paper(f, g))

    def test_each_condition(self):
        chance = random.Random(156)
        for D in (-23, -84, 40, 60):
            f, g = primitive(D)[-1], primitive(D)[1]
            h = slow.product(f, g)
            _, p, q, m = composed_paper(f, g)
            # Another basis with the right sign leads to the composition moved by a matrix.
            for c in (-2, 1, 5):
                other = tuple(a + c * b for a, b in zip(p, q))
                told = composition(other, q)
                self.assertEqual(told[:2], (f, g))
                k = next(k for k in self.matrices(6) if slow.move(told[2], k) == composition(p, q)[2])
                self.takes(takes_composed, f, g, h, ("composed", other, q, slow.times(k, m)))
                self.bars(takes_composed, f, g, h, ("composed", other, q, m))
                n = random_matrix(chance, 2, 2)
                self.takes(takes_composed, f, g, slow.move(h, n), ("composed", other, q, slow.times(slow.times(k, m), n)))
            self.takes(takes_composed, f, g, h, ("composed", p, q, negative(m)))
            minus = tuple(-item for item in p)
            for rows in ((q, p), (minus, q), (p, tuple(-item for item in q)), (p, p), (tuple(2 * a for a in p), q),
                         (p[::-1], q[::-1]), ((0, 0, 0, 0), q), (p[:3], q), (p + (0,), q)):
                self.bars(takes_composed, f, g, h, ("composed",) + rows + (m,))
            self.takes(takes_composed, f, g, h, ("composed", minus, tuple(-item for item in q), m))
            for k in (slow.times(m, TURNED), slow.times(m, ((1, 1), (0, 1)))):
                self.bars(takes_composed, f, g, h, ("composed", p, q, k))
            self.bars(takes_composed, slow.move(f, ((1, 1), (0, 1))), g, h, ("composed", p, q, m))
            self.bars(takes_composed, f, slow.move(g, ((1, 1), (0, 1))), h, ("composed", p, q, m))
            self.bars(takes_composed, f, g, slow.move(h, ((1, 1), (0, 1))), ("composed", p, q, m))
            if f != g:
                self.bars(takes_composed, g, f, h, ("composed", p, q, m))
            self.check_bent(takes_composed, f, g, h, ("composed", p, q, m))
            self.check_values(takes_composed, f, g, h)

    def matrices(self, most):
        """Yield all matrices with small items."""
        for p, q, r, s in itertools.product(range(-most, most + 1), repeat=4):
            if p * s - q * r == 1:
                yield ((p, q), (r, s))


def told_with_matrix(f):
    """Return the told form and a matrix that leads to it."""
    g, m = to_near(f)
    if slow.disc(f) > 0:
        while g != min(slow.cycle(g)):
            g, t = slow.step(g)
            m = slow.times(m, step_matrix(t))
    return g, m


def made_classes(D, orders, generators):
    """Return a paper of the class group with told orders and generators, row by row."""
    first, m = told_with_matrix(slow.principal(D))
    rows = {(0,) * len(orders): (first, (), m)}
    for row in itertools.product(*map(range, orders)):
        if any(row):
            last = max(at for at, e in enumerate(row) if e)
            before = row[:last] + (row[last] - 1,) + row[last + 1:]
            p, q = composing_rows(rows[before][0], generators[last])
            h, m = told_with_matrix(composition(p, q)[2])
            rows[row] = (h, (p, q), m)
    wraps = []
    for at, order in enumerate(orders):
        row = (0,) * at + (order - 1,) + (0,) * (len(orders) - at - 1)
        p, q = composing_rows(rows[row][0], generators[at])
        h, m = told_with_matrix(composition(p, q)[2])
        wraps.append((p, q, m))
    return ("classes", tuple(orders), tuple(generators), tuple(rows[row] for row in sorted(rows)), tuple(wraps))


class Classes(Judged):
    def test_papers_of_the_maker(self):
        for D in SMALL + [-420, -1155, -3299, -9748, -10000, -9999, 9997, 9996, 8145, -5460, 520, 1365, 9240]:
            paper = classes_paper(D)
            self.takes(takes_classes, D, paper)
            self.assertEqual(sorted(row[0] for row in paper[3]), primitive(D))
            for other in (D - 4, D + 4):
                if is_discriminant(other):
                    self.bars(takes_classes, other, paper)

    def test_another_maker(self):
        for D, orders in ((-23, (3,)), (-84, (2, 2)), (-260, (2, 4)), (-47, (5,)), (60, (2, 2)), (145, (4,)), (-71, (7,)),
                          (-420, (2, 2, 2)), (520, (2, 2))):
            told = 0
            forms = primitive(D)
            for generators in itertools.permutations(forms, len(orders)):
                paper = made_classes(D, orders, generators)
                fits = len({row[0] for row in paper[3]}) == len(forms)
                wraps = all(slow.product(paper[3][at][0], g) == paper[3][0][0]
                            for at, g in zip(self.last_rows(orders), generators))
                self.assertIs(takes_classes(D, paper), fits and wraps)
                told += fits and wraps
            self.assertGreater(told, 1)
            # Generators need not be told forms.
            orders, generators = classes_paper(D)[1:3]
            askew = [slow.move(f, ((2, 3), (1, 2))) for f in generators]
            self.takes(takes_classes, D, made_classes(D, orders, askew))

    def last_rows(self, orders):
        """Return the places of the last powers of the generators."""
        rows = list(itertools.product(*map(range, orders)))
        return [rows.index(tuple(o - 1 if k == at else 0 for k, o in enumerate(orders))) for at in range(len(orders))]

    def test_too_few_and_too_many(self):
        # A subgroup, and the group gone round twice: every step holds, but not the number of forms.
        for D, orders, generators in ((-260, (2,), ((10, 10, 9),)), (-260, (4,), ((3, 2, 22),)), (-23, (), ()),
                                      (-23, (6,), ((2, 1, 3),)), (60, (2,), None), (40, (), ()), (40, (4,), ((-3, 2, 3),)),
                                      (-84, (2,), ((2, 2, 11),)), (-84, (2, 2, 2), None)):
            if generators is None:
                generators = tuple(f for f in primitive(D) if f != slow.told(slow.principal(D)))[:len(orders)]
            self.bars(takes_classes, D, made_classes(D, orders, generators))
        # The principal class as a generator of the order 1, and orders that do not divide one another.
        for D in (-23, -84, 60, 145):
            orders, generators = classes_paper(D)[1:3]
            first = slow.told(slow.principal(D))
            self.bars(takes_classes, D, made_classes(D, (1,) + orders, (first,) + generators))
            self.takes(takes_classes, D, made_classes(D, orders, generators))
        for D in (-104, -200, -239):
            (order,), (f,) = classes_paper(D)[1:3]
            self.takes(takes_classes, D, made_classes(D, (order,), (f,)))
            for one in [d for d in slow.divisors(order) if math.gcd(d, order // d) == 1 and 1 < d < order]:
                parts = [f] * 2
                for at, times in enumerate((order // one, one)):
                    for _ in range(times - 1):
                        parts[at] = slow.product(parts[at], f)
                self.bars(takes_classes, D, made_classes(D, (one, order // one), parts))
        for D in (-3, -4, -7, -163, 5, 8, 13):
            paper = made_classes(D, (), ())
            self.takes(takes_classes, D, paper)
            # More rows of exponents than forms.
            f = slow.told(slow.principal(D))
            for orders in ((2,), (2, 2), (3,)):
                wraps = ((composing_rows(f, f) + (UNIT,)),) * len(orders)
                self.bars(takes_classes, D, ("classes", orders, (f,) * len(orders), paper[3], wraps))
                self.bars(takes_classes, D, ("classes", orders, (f,) * len(orders), (), wraps))

    def test_each_condition(self):
        for D in (-84, -260, 60, 145):
            paper = classes_paper(D)
            _, orders, generators, rows, wraps = paper
            # Orders that do not divide one another, or are no orders.
            for wrong in (orders[::-1], orders + (1,), (1,) + orders, tuple(-o for o in orders), orders[:-1], orders * 2,
                          (len(rows),), tuple(o + 1 for o in orders), (0,) + orders):
                if wrong != orders:
                    self.bars(takes_classes, D, ("classes", wrong, generators, rows, wraps))
            for wrong in (generators + generators[:1], generators[:-1], tuple(slow.move(f, TURNED) for f in generators),
                          tuple(tuple(2 * a for a in f) for f in generators), tuple((f[0], f[1], f[2] + 1) for f in generators),
                          ((10 ** 61, 1, 1),) * len(generators), tuple(tuple(-a for a in f) for f in generators),
                          tuple(slow.move(f, ((1, 1), (0, 1))) for f in generators)):
                if wrong != generators:
                    self.bars(takes_classes, D, ("classes", orders, wrong, rows, wraps))
            for at in range(len(rows)):
                form, step, m = rows[at]
                others = [(form, step, slow.times(m, ((1, 1), (0, 1)))), (slow.move(form, ((1, 1), (0, 1))), step, slow.times(
                    m, ((1, 1), (0, 1)))), (form, step[::-1] if at else ((1, 0, 0, 0), (0, 1, 0, 0)), m), (form, step),
                    (form, step, slow.times(m, TURNED)), (form, (), m) if at else (form, ((),), m), [form, step, m],
                    (list(form), step, m), rows[at - 1]]
                if D > 0:
                    # Another form of the cycle, that is not the least one.
                    g, t = slow.step(form)
                    others.append((g, step, slow.times(m, step_matrix(t))))
                for wrong in others:
                    self.bars(takes_classes, D, ("classes", orders, generators, rows[:at] + (wrong,) + rows[at + 1:], wraps))
                self.takes(takes_classes, D, ("classes", orders, generators, rows[:at] + ((form, step, negative(m)),)
                                              + rows[at + 1:], wraps))
                self.bars(takes_classes, D, ("classes", orders, generators, rows[:at] + rows[at + 1:], wraps))
                self.bars(takes_classes, D, ("classes", orders, generators, rows[:at] + rows[at - 1:], wraps))
            for at in range(len(wraps)):
                p, q, m = wraps[at]
                for wrong in ((q, p, m), (p, q, slow.times(m, ((1, 1), (0, 1)))), (p, q), (p, q, m, m), (p, p, m), None):
                    self.bars(takes_classes, D, ("classes", orders, generators, rows, wraps[:at] + (wrong,) + wraps[at + 1:]))
            self.bars(takes_classes, D, ("classes", orders, generators, rows, wraps + wraps[:1]))
            self.bars(takes_classes, D, ("classes", orders, generators, rows, wraps[:-1]))
            if len(wraps) > 1:
                self.bars(takes_classes, D, ("classes", orders, generators, rows, wraps[::-1]))
            self.bars(takes_classes, D, ("classes", orders, generators, rows[:1] + rows[:0:-1], wraps))

    def test_bent(self):
        for D in (-3, -23, -84, 12, 40):
            self.check_bent(takes_classes, D, classes_paper(D))
            self.check_values(takes_classes, D)

    def test_great_numbers(self):
        paper = classes_paper(-23)
        for orders in ((10 ** 30,), (2, 10 ** 30), (2,) * 3000, (3, 3 * 10 ** 40)):
            self.bars(takes_classes, -23, ("classes", orders, ((2, 1, 3),) * len(orders), paper[3], paper[4]))


class Squares(Judged):
    def test_papers_of_the_maker(self):
        chance = random.Random(157)
        for D in SMALL + [-420, -1155, 1365, 520, -99999, -100000, 99996, 99997, 95095 * -1]:
            forms = primitive(D)
            squares = {slow.product(g, g) for g in forms} if abs(D) < 2000 else None
            for f in forms[:12]:
                g = slow.move(f, random_matrix(chance, 2, 4))
                paper = square_paper(g)
                self.takes(takes_square, g, paper)
                if squares is not None:
                    self.assertEqual(paper[0], "root" if f in squares else "sign")

    def test_root(self):
        for D, f in ((-23, (2, 1, 3)), (-84, (1, 0, 21)), (145, None), (60, None), (-260, (9, 8, 9))):
            forms = primitive(D)
            f = f or next(slow.product(g, g) for g in reversed(forms))
            roots = [g for g in forms if slow.product(g, g) == slow.told(f)]
            for g in roots:
                p, q = composing_rows(g, g)
                h = composition(p, q)[2]
                m = slow.times(told_with_matrix(h)[1], inverse(told_with_matrix(f)[1]))
                self.takes(takes_square, f, ("root", g, p, q, m))
                self.takes(takes_square, f, ("root", g, p, q, negative(m)))
                for wrong in ((g, q, p, m), (g, p, q, slow.times(m, ((1, 1), (0, 1)))), (g, p, q, slow.times(m, TURNED)),
                              (slow.move(g, ((1, 1), (0, 1))), p, q, m), (g, p, p, m), (g, p, q), (g, p, q, m, m)):
                    self.bars(takes_square, f, ("root",) + wrong)
                self.check_bent(takes_square, f, ("root", g, p, q, m))
            for g in forms:
                if g not in roots:
                    p, q = composing_rows(g, g)
                    _, m = told_with_matrix(composition(p, q)[2])
                    self.bars(takes_square, f, ("root", g, p, q, m))

    def test_root_of_another_kind(self):
        # Rows that compose forms that are not primitive, or of another discriminant.
        f = (1, 0, 21)
        for g in ((2, 0, 42), (1, 0, 5), (1, 6, -1), (-1, 0, -21), (0, 0, 0), (1, 0, True)):
            self.bars(takes_square, f, ("root", g, (1, 0, 0, -21), (0, 1, 1, 0), UNIT))
        self.takes(takes_square, f, ("root", f, (1, 0, 0, -21), (0, 1, 1, 0), UNIT))
        # These rows compose (2, 2, 2) with itself, and the composition is the primitive form (1, 0, 3).
        p, q = (2, 1, 1, -1), (0, 1, 1, 1)
        self.assertEqual(composition(p, q), ((2, 2, 2), (2, 2, 2), (1, 0, 3)))
        self.bars(takes_square, (1, 0, 3), ("root", (2, 2, 2), p, q, UNIT))
        self.takes(takes_square, (1, 0, 3), ("root", (1, 0, 3), (1, 0, 0, -3), (0, 1, 1, 0), UNIT))

    def test_sign(self):
        for D in (-84, -23, -260, 40, 60, 145, 136, -20, -56, 24, -143, 85):
            signs = slow.signs(D)
            for f in primitive(D):
                for x, y in itertools.product(range(-4, 5), repeat=2):
                    v = slow.at(f, x, y)
                    for d in set(signs) | set(range(-12, 13)) | {D, -D, 29, -29}:
                        fits = v > 0 and math.gcd(v, 2 * D) == 1 and d in signs and slow.sign(d, v) == -1
                        self.assertIs(takes_square(f, ("sign", x, y, d)), fits, (f, x, y, d))

    def test_never_both(self):
        for D in (-84, -260, 60, 136):
            forms = primitive(D)
            squares = {slow.product(g, g) for g in forms}
            for f in forms:
                barred = any(takes_square(f, ("sign", x, y, d)) for x in range(-5, 6) for y in range(-5, 6)
                             for d in slow.signs(D))
                self.assertEqual(barred, f not in squares)

    def test_bent(self):
        for f in ((2, 2, 11), (-3, 2, 3), (2, 1, 3)):
            self.check_bent(takes_square, f, square_paper(f))
            self.check_values(takes_square, f)
        self.bars(takes_square, (2, 2, 11), square_paper((3, 0, 7)) if square_paper((3, 0, 7))[0] == "root" else None)
        self.bars(takes_square, (1, 0, 21), square_paper((2, 2, 11)))


if __name__ == "__main__":
    unittest.main()
