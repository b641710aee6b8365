"""Points 5.1 to 5.3."""

import itertools
import random
import unittest

from classledger.cycles import all_cycles, cycle_of, is_on_cycle, lead_in, next_form, turns_of
from classledger.forms import is_form
from tests import slow
from tests.test_forms import NO_DISCRIMINANTS, NO_FORMS, malformed, random_matrix
from tests.test_primes import refused

DEFINITE = ((2, 1, 3), (1, 0, 1), (10 ** 59, 1, 10 ** 59))


def step_matrix(t):
    """Return the matrix of a step with the turn t."""
    return ((0, -1), (1, t))


class Conditions(unittest.TestCase):
    def test_on_cycle(self):
        seen = set()
        for f in itertools.product(range(-9, 10), range(-4, 12), range(-9, 10)):
            if is_form(f) and slow.disc(f) > 0:
                self.assertIs(is_on_cycle(f), slow.on_cycle(f), f)
                a, b, _ = f
                s = slow.floor_root(slow.disc(f))
                seen.add((1 <= b, b <= s, 2 * abs(a) + b >= s + 1, 2 * abs(a) - b <= s))
        # Each condition but the first one can be missed alone.
        for told in ((True, True, True, True), (True, False, True, True), (True, True, False, True),
                     (True, True, True, False)):
            self.assertIn(told, seen)

    def test_great(self):
        n = 10 ** 60 - 1
        self.assertIs(is_on_cycle((n, n, -n)), True)
        self.assertIs(is_on_cycle((n, -n, -n)), False)
        self.assertIs(is_on_cycle((1, n, -1)), True)
        self.assertIs(is_on_cycle((n, 1, -1)), False)

    def test_malformed(self):
        for function in (is_on_cycle, next_form, lead_in, cycle_of, turns_of):
            for value in NO_FORMS + DEFINITE:
                malformed(self, function, value)


class Steps(unittest.TestCase):
    def test_small(self):
        great = small = 0
        for f in itertools.product(range(-7, 8), range(-9, 10), range(-12, 13)):
            if is_form(f) and slow.disc(f) > 0:
                self.assertEqual(next_form(f), slow.step(f), f)
                if abs(f[2]) > slow.floor_root(slow.disc(f)):
                    great += 1
                else:
                    small += 1
        self.assertGreater(min(great, small), 100)

    def test_great(self):
        chance = random.Random(5)
        kinds = set()
        for _ in range(300):
            f = tuple(chance.randint(-10 ** k, 10 ** k) for k in (chance.randint(1, 59), chance.randint(1, 59), 59))
            if chance.random() < 0.5:
                f = (f[2], f[1], f[0])
            if not is_form(f) or slow.disc(f) < 0:
                continue
            (a, b, c), s = f, slow.floor_root(slow.disc(f))
            g, t = next_form(f)
            self.assertEqual(g, slow.move(f, step_matrix(t)))
            low, high = (1 - abs(c), abs(c)) if abs(c) > s else (s + 1 - 2 * abs(c), s)
            self.assertTrue(low <= g[1] <= high)
            self.assertEqual((g[1] + b) % (2 * c), 0)
            kinds.add(abs(c) > s)
        self.assertEqual(kinds, {True, False})

    def test_large_step(self):
        k = 10 ** 59
        g = slow.move((9 * k, 2 * k, -6 * k), step_matrix(-1))
        self.assertEqual(g[1], 10 * k)
        refused(self, "large", next_form, (9 * k, 2 * k, -6 * k))
        self.assertEqual(next_form((9 * k, 2 * k + 1, -6 * k))[0][1], 10 ** 60 - 1)

    def test_lead_in(self):
        chance = random.Random(6)
        for _ in range(300):
            f = tuple(chance.randint(-60, 60) for _ in range(3))
            if is_form(f) and slow.disc(f) > 0:
                self.check_lead_in(f)

    def check_lead_in(self, f):
        told, m = f, ((1, 0), (0, 1))
        while not slow.on_cycle(told):
            told, t = slow.step(told)
            m = slow.times(m, step_matrix(t))
        self.assertEqual(lead_in(f), (told, m))
        self.assertEqual(slow.move(f, m), told)

    def test_lead_in_on_a_cycle(self):
        for f in slow.cycle((3, 4, -2)):
            self.assertEqual(lead_in(f), (f, ((1, 0), (0, 1))))

    def test_far_forms(self):
        chance = random.Random(8)
        told = 0
        while told < 40:
            g = chance.choice(slow.cycle(chance.choice(((1, 6, -1), (3, 4, -2), (1, 1, -1), (7, 15, -9)))))
            f = slow.move(g, random_matrix(chance, 16, 9))
            if max(map(abs, f)) < 10 ** 60:
                told += 1
                h, m = lead_in(f)
                self.assertEqual(slow.det(m), 1)
                self.assertEqual(slow.move(f, m), h)
                self.assertIn(h, slow.cycle(g))

    def test_large_lead_in(self):
        k = 10 ** 58
        f = (90 * k, -18 * k, -45 * k)
        # The step leads to the middle item 108 k, on a cycle.
        told = slow.move(f, step_matrix(-1))
        self.assertEqual((told[1], slow.on_cycle(told), slow.on_cycle(f)), (108 * k, True, False))
        refused(self, "large", lead_in, f)
        f = (9 * k, -k, -4 * k)
        g, m = lead_in(f)
        self.assertEqual((slow.move(f, m), slow.on_cycle(g)), (g, True))


class Cycles(unittest.TestCase):
    def test_cycles(self):
        for D in (5, 8, 12, 13, 40, 60, 61, 136, 148, 229, 316, 520, 1129):
            cycles = slow.cycles(D)
            self.assertEqual(all_cycles(D), tuple(cycles))
            for told in cycles:
                self.assertEqual(len(told) % 2, 0)
                for at, f in enumerate(told):
                    around = told[at:] + told[:at]
                    self.assertEqual(cycle_of(f), around)
                    self.assertEqual(turns_of(f), tuple(slow.step(g)[1] for g in around))

    def test_all_cycles(self):
        for D in range(5, 420):
            if slow.is_discriminant(D):
                self.assertEqual(all_cycles(D), tuple(slow.cycles(D)), D)

    def test_not_primitive(self):
        f = (2, 4, -4)
        self.assertEqual(cycle_of(f), tuple(slow.cycle(f)))
        self.assertEqual(len(turns_of(f)), len(slow.cycle(f)))
        for told in all_cycles(48):
            self.assertNotIn(f, told)

    def test_great(self):
        D = 999997
        cycles = all_cycles(D)
        self.assertEqual(list(cycles), sorted(cycles))
        self.assertEqual(len({f for told in cycles for f in told}), sum(map(len, cycles)))
        for told in cycles:
            self.assertEqual(told[0], min(told))
            f = told[0]
            for g in told[1:] + told[:1]:
                f = next_form(f)[0]
                self.assertEqual(f, g)
        self.assertEqual(len(all_cycles(10 ** 6 - 4)), len(all_cycles(10 ** 6 - 4)))

    def test_errors(self):
        for value in NO_DISCRIMINANTS + (-3, -4, -23, -10 ** 70):
            malformed(self, all_cycles, value)
        for D in (1000001, 1000004, 10 ** 70 + 1):
            refused(self, "large", all_cycles, D)
        malformed(self, all_cycles, 10 ** 6)
        malformed(self, all_cycles, 1000002)
        for function in (cycle_of, turns_of):
            refused(self, "large", function, (1, 1, -250000))
            refused(self, "large", function, (1, 999, -725))
            refused(self, "cycle", function, (1, 1, -249999))
            refused(self, "cycle", function, (1, 0, -10))
            refused(self, "cycle", function, (1, -6, -1))
            refused(self, "large", function, (1, 0, -10 ** 59))
        self.assertEqual(cycle_of((1, 999, -499))[0], (1, 999, -499))


if __name__ == "__main__":
    unittest.main()
