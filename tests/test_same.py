"""Point 5.4."""

import itertools
import random
import unittest

from classledger.same import equivalence, told_form
from tests import slow
from tests.test_forms import NO_FORMS, malformed, random_matrix
from tests.test_primes import refused

DISCRIMINANTS = [D for D in range(-120, 230) if slow.is_discriminant(D)]


def told_forms(D):
    """Return the told forms of all classes of D, also of those of forms that are not primitive."""
    if D < 0:
        return slow.reduced(D)
    found = []
    for k in range(1, D):
        if D % (k * k) == 0 and slow.is_discriminant(D // (k * k)):
            found.extend(tuple(k * item for item in cycle[0]) for cycle in slow.cycles(D // (k * k)))
    return found


class ToldForms(unittest.TestCase):
    def check_told(self, f, g):
        told, m = told_form(f)
        self.assertEqual(told, g)
        self.assertEqual(slow.det(m), 1)
        self.assertEqual(slow.move(f, m), g)

    def test_both_signs(self):
        chance = random.Random(1)
        for D in DISCRIMINANTS:
            for g in told_forms(D):
                self.check_told(g, g)
                for _ in range(2):
                    self.check_told(slow.move(g, random_matrix(chance, 4, 4)), g)

    def test_all_forms_of_a_cycle(self):
        for D in (40, 60, 61, 229, 316):
            for cycle in slow.cycles(D):
                for f in cycle:
                    self.check_told(f, cycle[0])

    def test_great(self):
        chance = random.Random(2)
        told = 0
        while told < 30:
            g = chance.choice(((2, -1, 3), (1, 0, 10 ** 20), (-3, 2, 3), (-1, 6, 1), (3, 3, 3)))
            f = slow.move(g, random_matrix(chance, 12, 9))
            if max(map(abs, f)) < 10 ** 60:
                told += 1
                self.check_told(f, g)
        big = 10 ** 60 - 1
        self.check_told((big, 1, big), (big, 1, big))

    def test_errors(self):
        for value in NO_FORMS:
            malformed(self, told_form, value)
        for f in ((1, 1, -250000), (1, 0, -250001), (10 ** 59, 1, -10 ** 59)):
            refused(self, "large", told_form, f)
        malformed(self, told_form, (1, 0, -250000))

    def test_below_the_bound(self):
        f = g = (1, 1, -249999)
        while not slow.on_cycle(g):
            g, _ = slow.step(g)
        self.check_told(f, min(slow.cycle(g)))


class Equivalence(unittest.TestCase):
    def test_classes(self):
        chance = random.Random(3)
        for D in DISCRIMINANTS:
            forms = told_forms(D)
            moved = [slow.move(g, random_matrix(chance, 3, 3)) for g in forms]
            for (j, f), (k, g) in itertools.product(enumerate(moved), enumerate(moved)):
                m = equivalence(f, g)
                if j == k:
                    self.assertEqual(slow.det(m), 1)
                    self.assertEqual(slow.move(f, m), g)
                else:
                    self.assertIsNone(m)

    def test_moved_forms(self):
        chance = random.Random(4)
        for g in ((2, 1, 3), (1, 1, 1), (6, 0, 6), (3, 10, -5), (1, 1, -1), (4, 6, -8), (10 ** 40, 3, 10 ** 41)):
            for _ in range(12):
                f = slow.move(g, random_matrix(chance, 3, 6))
                m = equivalence(g, f)
                self.assertEqual((slow.det(m), slow.move(g, m)), (1, f))
                m = equivalence(f, g)
                self.assertEqual((slow.det(m), slow.move(f, m)), (1, g))

    def test_two_discriminants(self):
        for f, g in itertools.permutations(((2, 1, 3), (1, 1, 1), (1, 0, -10), (1, 1, -1), (1, 1, 10 ** 59)), 2):
            self.assertIsNone(equivalence(f, g))

    def test_errors(self):
        for value in NO_FORMS:
            malformed(self, equivalence, value, (2, 1, 3))
            malformed(self, equivalence, (2, 1, 3), value)
            malformed(self, equivalence, value, (1, 1, -250000))
            malformed(self, equivalence, (1, 1, -250000), value)
        large = (1, 1, -250000)
        for f in (large, (2, 1, 3), (1, 0, -10)):
            refused(self, "large", equivalence, f, large)
            refused(self, "large", equivalence, large, f)
        self.assertIsNotNone(equivalence((1, 1, -249999), (1, 1, -249999)))


if __name__ == "__main__":
    unittest.main()
