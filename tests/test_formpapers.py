"""Points 15.2 to 15.7: the makers of the papers of forms, their kinds and their errors."""

import itertools
import unittest

from classledger.formchecker import takes_same, takes_square, takes_unit, takes_value
from classledger.formpapers import (
    classes_paper, composed_paper, minus_paper, same_paper, square_paper, unit_paper, value_paper)
from classledger.forms import is_discriminant
from tests import slow
from tests.test_forms import malformed
from tests.test_primes import refused

NO_FORMS = tuple(value for value in slow.ODD_VALUES if value != (1, 1, 6)) + ((10 ** 60, 1, 1), (1, 3, 2), (-2, 1, -3))
NO_DISCRIMINANTS = slow.ODD_VALUES + (0, 1, 4, 2, 3, -1, -2, 6, 9, 16, 10 ** 40 + 2, "-23", (5,), 5.0)
NO_VALUES = tuple(value for value in slow.ODD_VALUES) + (0, "3", (3,))

# The least and greatest discriminants just within the bounds, and the next ones beyond.
WITHIN = (999997, 999996, -10 ** 12, -10 ** 12 + 1)
BEYOND = (1000001, 1000004, 1000005, -10 ** 12 - 3, -10 ** 12 - 4, 10 ** 50 + 1, -10 ** 50)


class Kinds(unittest.TestCase):
    def test_example(self):
        self.assertEqual(same_paper((1, 0, 1), (1, 0, 1))[0], "same")

    def test_kinds(self):
        self.assertEqual(same_paper((2, 1, 3), (2, -1, 3))[0], "apart")
        self.assertEqual(value_paper((2, 1, 3), 6)[0], "value")
        self.assertEqual(value_paper((2, 1, 3), 5), ("none", ()))
        self.assertEqual((unit_paper(61)[:3], minus_paper(61)), (("unit", 1523, 195), ("minus", 39, 5)))
        self.assertEqual((minus_paper(28)[0], unit_paper(28)[:3]), ("none", ("unit", 16, 3)))
        self.assertEqual((composed_paper((2, 1, 3), (2, 1, 3))[0], classes_paper(-23)[:2]), ("composed", ("classes", (3,))))
        self.assertEqual((square_paper((2, 2, 11))[0], square_paper((2, 1, 3))[:2]), ("sign", ("root", (2, -1, 3))))

    def test_again(self):
        for maker, arguments in ((same_paper, ((2, 1, 3), (2, -1, 3))), (value_paper, ((1, 0, -10), 3)), (unit_paper, (60,)),
                                 (minus_paper, (60,)), (classes_paper, (-84,)), (composed_paper, ((2, 2, 11), (3, 0, 7))),
                                 (square_paper, ((2, 2, 11),))):
            self.assertEqual(maker(*arguments), maker(*arguments))


class Errors(unittest.TestCase):
    def test_no_forms(self):
        for value in NO_FORMS:
            for maker in (same_paper, composed_paper):
                malformed(self, maker, value, (2, 1, 3))
                malformed(self, maker, (2, 1, 3), value)
                malformed(self, maker, value, value)
                # Malformed stands ahead of Refused.
                malformed(self, maker, (1, 1, 10 ** 20), value)
            malformed(self, value_paper, value, 3)
            malformed(self, value_paper, value, None)
            malformed(self, value_paper, value, 10 ** 9)
            malformed(self, square_paper, value)

    def test_unlike_discriminants(self):
        for f, g in itertools.permutations(((1, 1, 6), (1, 0, 5), (1, 6, -1), (1, 1, -1), (1, 1, 10 ** 20), (1, 0, -10 ** 20 - 1)),
                                           2):
            malformed(self, same_paper, f, g)
            malformed(self, composed_paper, f, g)

    def test_not_primitive(self):
        for f in ((2, 0, 2), (3, 3, 3), (2, 12, -2), (6, 6, 33)):
            malformed(self, square_paper, f)
            malformed(self, composed_paper, f, f)
            self.assertEqual(same_paper(f, f)[0], "same")
        malformed(self, square_paper, (2 * 10 ** 20, 0, 2))
        malformed(self, composed_paper, (2, 2, 8), (1, 0, 15))
        malformed(self, composed_paper, (1, 0, 15), (2, 2, 8))
        self.assertEqual(same_paper((2, 2, 8), (1, 0, 15))[0], "apart")

    def test_no_values(self):
        for value in NO_VALUES:
            for f in ((2, 1, 3), (1, 6, -1), (1, 1, 10 ** 20)):
                malformed(self, value_paper, f, value)
        for n in (-1, -6, -10 ** 9):
            malformed(self, value_paper, (2, 1, 3), n)
            malformed(self, value_paper, (1, 1, 10 ** 20), n)

    def test_no_discriminants(self):
        for value in NO_DISCRIMINANTS:
            for maker in (unit_paper, minus_paper, classes_paper):
                malformed(self, maker, value)
        for D in (-3, -4, -23, -10 ** 6, -10 ** 13):
            malformed(self, unit_paper, D)
            malformed(self, minus_paper, D)

    def test_within_and_beyond(self):
        for D in WITHIN:
            f = slow.principal(D)
            self.assertIs(takes_same(f, slow.move(f, ((1, 1), (0, 1))), same_paper(f, slow.move(f, ((1, 1), (0, 1))))), True)
            self.assertIs(takes_value(f, 1, value_paper(f, 1)), True)
            self.assertEqual(composed_paper(f, f)[0], "composed")
        for D in BEYOND:
            f = slow.principal(D)
            refused(self, "large", same_paper, f, f)
            refused(self, "large", composed_paper, f, f)
            refused(self, "large", value_paper, f, 1)
            refused(self, "large", square_paper, f)
            refused(self, "large", classes_paper, D)
            if D > 0:
                refused(self, "large", unit_paper, D)
                refused(self, "large", minus_paper, D)
        self.assertIs(takes_unit(999997, unit_paper(999997)), True)

    def test_bounds_of_values(self):
        for f in ((2, 1, 3), (1, 6, -1)):
            for n in (10000, 9999):
                self.assertIs(takes_value(f, n, value_paper(f, n)), True)
            refused(self, "large", value_paper, f, 10001)
            refused(self, "large", value_paper, f, 10 ** 30)
        self.assertIs(takes_value((1, 6, -1), -10000, value_paper((1, 6, -1), -10000)), True)
        refused(self, "large", value_paper, (1, 6, -1), -10001)

    def test_bounds_of_classes_and_squares(self):
        for D in (-10000, -9999, 9997, 9996):
            self.assertEqual(classes_paper(D)[0], "classes")
        for D in (-10003, -10004, 10001, 10004, 99997):
            self.assertTrue(is_discriminant(D))
            refused(self, "large", classes_paper, D)
        for D in (-100000, -99999, 99997, 99996):
            self.assertIs(takes_square(slow.principal(D), square_paper(slow.principal(D))), True)
        for D in (-100003, -100004, 100001, 100004, 999997):
            refused(self, "large", square_paper, slow.principal(D))


if __name__ == "__main__":
    unittest.main()
