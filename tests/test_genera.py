"""Points 6.6 and 6.7: signs, genera, and classes that are squares."""

import random
import unittest

from classledger.classes import class_order, class_product
from classledger.genera import all_genera, class_root, genus_of, signs_of
from tests import slow
from tests.test_classes import NOT_PRIMITIVE
from tests.test_forms import NO_DISCRIMINANTS, NO_FORMS, malformed, random_matrix
from tests.test_primes import refused

SMALL = [D for D in range(-320, 320) if slow.is_discriminant(D)]
# D = 4 m with each m modulo 8, and odd ones, of both signs.
MORE = (-420, -480, -672, -1155, -3315, -5460, 520, 780, 1155 * 4, 1365, 3360, 1020)


class Signs(unittest.TestCase):
    def test_signs(self):
        for D in SMALL + list(MORE) + [-99999, -100000, 99996, 99985]:
            self.assertEqual(signs_of(D), slow.signs(D), D)

    def test_even_discriminants(self):
        # m modulo 8 from 0 to 7, for both signs of D.
        for D, signs in ((32, (-4, 8)), (-32, (-4, 8)), (4 * 17, (17,)), (-28, (-7,)), (8, (8,)), (-24, (-3, 8)),
                         (12, (-4, -3)), (-20, (-4, 5)), (80, (-4, 5)), (-16, (-4,)), (20, (5,)), (-12, (-3,)),
                         (24, (-8, -3)), (-8, (-8,)), (28, (-7, -4)), (-4, (-4,))):
            self.assertEqual(signs_of(D), signs)

    def test_errors(self):
        for value in NO_DISCRIMINANTS:
            malformed(self, signs_of, value)
            malformed(self, all_genera, value)
        for D in (-100003, -100004, 100001, 100004, 10 ** 70 + 1, -10 ** 70):
            refused(self, "large", signs_of, D)
            refused(self, "large", all_genera, D)


class Genera(unittest.TestCase):
    def test_genus(self):
        for D in SMALL:
            for f in slow.primitive(D):
                self.assertEqual({genus_of(f)}, slow.genera(f, 12), f)

    def test_other_forms_of_the_class(self):
        chance = random.Random(4)
        for f in ((2, 2, 11), (5, 4, 5), (-3, 2, 3), (2, 1, 3), (-1, 6, 1), (8, 4, 9), (3, 3, 8)):
            for _ in range(8):
                g = slow.move(f, random_matrix(chance, 8, 50))
                self.assertEqual(genus_of(g), genus_of(f))
        # Its values above 0 at small pairs are none.
        k = 10 ** 25
        g = slow.move((-1, 6, 1), ((1, k), (0, 1)))
        self.assertEqual(genus_of(slow.move(g, ((0, -1), (1, 0)))), genus_of((-1, 6, 1)))
        self.assertEqual(genus_of(slow.move((1, 0, 21), ((1, k), (0, 1)))), (1, 1, 1))

    def test_all_genera(self):
        for D in SMALL + list(MORE):
            told = {}
            for f in slow.primitive(D):
                told.setdefault(genus_of(f), []).append(f)
            self.assertEqual(all_genera(D), tuple((genus, tuple(sorted(told[genus]))) for genus in sorted(told)))

    def test_numbers(self):
        for D in SMALL + list(MORE) + [-99999, -100000, 99996, 99960]:
            genera = all_genera(D)
            self.assertEqual(len(genera), 2 ** (len(signs_of(D)) - 1), D)
            self.assertEqual(len({len(classes) for _, classes in genera}), 1)
            few = sum(class_order(f) <= 2 for _, classes in genera for f in classes)
            self.assertEqual(few, len(genera))

    def test_errors(self):
        for value in NO_FORMS + NOT_PRIMITIVE:
            malformed(self, genus_of, value)
            malformed(self, class_root, value)
        for f in ((1, 1, 25001), (1, 0, 25001), (1, 1, -25000), (1, 0, -25001), (10 ** 59, 1, 10 ** 59)):
            refused(self, "large", genus_of, f)
            refused(self, "large", class_root, f)


class Squares(unittest.TestCase):
    def test_roots(self):
        for D in SMALL + [-420, -672, -1155, 520, 780]:
            classes = slow.primitive(D)
            squares = {class_product(f, f) for f in classes}
            for f in classes:
                root = class_root(f)
                self.assertEqual(root is not None, f in squares)
                # A class is a square exactly if all its signs are 1.
                self.assertEqual(root is not None, set(genus_of(f)) == {1})
                if root is not None:
                    self.assertIn(root, classes)
                    self.assertEqual(slow.product(root, root), f)

    def test_classes_of_one_genus(self):
        for D in (-420, -260, -3299, 780, 505, -480):
            squares = {class_product(f, f) for f in slow.primitive(D)}
            for _, classes in all_genera(D):
                self.assertEqual({class_product(classes[0], f) for f in squares}, set(classes))

    def test_forms_that_are_not_told(self):
        chance = random.Random(5)
        for f in ((2, 1, 3), (2, 2, 11), (-3, 2, 3), (-1, 6, 1), (3, 1, 1000), (5, 4, 5)):
            root = class_root(f)
            g = slow.move(f, random_matrix(chance, 5, 9))
            again = class_root(g)
            self.assertEqual(root is None, again is None)
            if again is not None:
                self.assertEqual(class_product(again, again), slow.told(f))

    def test_great(self):
        for f in ((2, 1, 12500), (3, 3, 8333), (1, 1, -24999), (2, 2, -12497)):
            root = class_root(f)
            self.assertEqual(root is not None, set(genus_of(f)) == {1})
            if root is not None:
                self.assertEqual(class_product(root, root), slow.told(f))


if __name__ == "__main__":
    unittest.main()
