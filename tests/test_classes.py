"""Points 6.3 to 6.5: products, powers, orders, class groups and relations."""

import itertools
import random
import unittest

from classledger.classes import (
    class_group, class_list, class_order, class_power, class_product, class_relations, class_row, prime_forms,
    rounds_of)
from classledger.rows import determinant, is_row, order_modulo, smith_divisors, span
from tests import slow
from tests.test_forms import NO_DISCRIMINANTS, NO_FORMS, malformed, random_matrix
from tests.test_primes import refused

# Discriminants of both signs, fundamental ones and others, with cyclic class groups and others.
BELOW = (-3, -4, -7, -12, -15, -20, -23, -27, -47, -56, -60, -71, -84, -96, -108, -163, -224, -260, -420, -480, -1155)
ABOVE = (5, 8, 12, 13, 20, 40, 45, 60, 136, 145, 180, 229, 316, 328, 505, 520, 780, 1020)
NOT_PRIMITIVE = ((2, 2, 2), (2, 0, 2), (2, 4, -4), (3, 3, -3))


def is_fundamental(D):
    """Tell a fundamental discriminant by trying."""
    return slow.fundamental(D)[1] == 1


def powers(f, most):
    """Return the told forms of the powers 0 to most of a class."""
    found = [slow.told(slow.principal(slow.disc(f)))]
    for _ in range(most):
        found.append(slow.product(found[-1], f))
    return found


class Products(unittest.TestCase):
    def test_products(self):
        for D in BELOW + ABOVE:
            for f, g in itertools.product(slow.primitive(D)[:8], repeat=2):
                self.assertEqual(class_product(f, g), slow.product(f, g), (f, g))

    def test_group_laws(self):
        for D in (-84, -71, -260, -108, 40, 60, 145, 505):
            classes = slow.primitive(D)
            unit = slow.told(slow.principal(D))
            for f in classes:
                a, b, c = f
                self.assertEqual(class_product(f, unit), f)
                self.assertEqual(class_product(f, (a, -b, c)), unit)
            for f, g, h in itertools.product(classes[:4], repeat=3):
                self.assertEqual(class_product(f, g), class_product(g, f))
                self.assertEqual(class_product(class_product(f, g), h), class_product(f, class_product(g, h)))

    def test_other_forms_of_the_classes(self):
        chance = random.Random(1)
        for f, g in (((2, 1, 3), (2, 1, 3)), ((3, 0, 7), (5, 4, 5)), ((-3, 2, 3), (1, 6, -1)), ((1, 0, 5), (2, 2, 3))):
            for _ in range(10):
                one, two = slow.move(f, random_matrix(chance, 4, 9)), slow.move(g, random_matrix(chance, 4, 9))
                self.assertEqual(class_product(one, two), class_product(f, g))

    def test_powers(self):
        for D in BELOW + ABOVE:
            for f in slow.primitive(D)[:5]:
                a, b, c = f
                told = powers(f, 6)
                back = powers((a, -b, c), 6)
                self.assertEqual([class_power(f, k) for k in range(7)], told)
                self.assertEqual([class_power(f, -k) for k in range(7)], back)

    def test_great_powers(self):
        f = (2, 1, 3)
        for k in (3 * 10 ** 50, 3 * 10 ** 50 + 1, -3 * 10 ** 50 + 2, 10 ** 300 + 1):
            self.assertEqual(class_power(f, k), class_power(f, k % 3))

    def test_great_forms(self):
        a, c = 10 ** 28 + 1, 10 ** 28 + 9
        f = (a, 1, c)
        self.assertEqual(class_power(f, 0), (1, 1, a * c))
        self.assertEqual(class_product(f, (a, -1, c)), (1, 1, a * c))
        self.assertEqual(class_product(f, f), class_power(f, 2))
        self.assertEqual(class_product(class_product(f, f), f), class_power(f, 3))
        self.assertEqual(class_power(class_power(f, 5), -3), class_power(f, -15))

    def test_too_great(self):
        k = 10 ** 58
        f = (k + 1, 1, k + 3)
        self.assertEqual(class_power(f, 1), f)
        self.assertEqual(class_power(f, -1), (k + 1, -1, k + 3))
        # The principal form has the last item (1 - D)/4.
        refused(self, "large", class_power, f, 0)
        refused(self, "large", class_product, f, (k + 1, -1, k + 3))

    def test_orders(self):
        for D in BELOW + ABOVE:
            unit = slow.told(slow.principal(D))
            for f in slow.primitive(D)[:6]:
                order, power = 1, f
                while power != unit:
                    order, power = order + 1, slow.product(power, f)
                self.assertEqual(class_order(f), order)

    def test_great_orders(self):
        for f in ((2, 1, 124995), (3, 1, 83333), (2, 0, 125000 - 3), (7, 3, -35700), (2, 1, -124999)):
            order = class_order(f)
            unit = class_power(f, 0)
            self.assertEqual(class_power(f, order), unit)
            for q, _ in slow.factors(order):
                self.assertNotEqual(class_power(f, order // q), unit)
        self.assertEqual(class_order((1, 1, 249999)), 1)
        self.assertEqual(class_order((1, 1, 10 ** 5 // 4)), 1)

    def test_malformed(self):
        f = (2, 1, 3)
        for value in NO_FORMS + NOT_PRIMITIVE:
            malformed(self, class_product, value, f)
            malformed(self, class_product, f, value)
            malformed(self, class_product, value, value)
            malformed(self, class_power, value, 2)
            malformed(self, class_power, value, None)
            malformed(self, class_order, value)
        for value in slow.ODD_VALUES:
            malformed(self, class_power, f, value)
            malformed(self, class_power, (1, 1, -10 ** 7), value)
        for g in ((1, 1, 1), (1, 0, -10), (1, 1, 5), (1, 1, -10 ** 7)):
            malformed(self, class_product, f, g)
            malformed(self, class_product, g, f)

    def test_bounds(self):
        # D = 999997, 1000005 and 10^6 + 4.
        self.assertEqual(class_product((1, 1, -249999), (1, 1, -249999)), class_power((1, 1, -249999), 1))
        for f in ((1, 1, -250001), (1, 0, -250001), (1, 1, -10 ** 30)):
            refused(self, "large", class_product, f, f)
            refused(self, "large", class_power, f, 0)
            refused(self, "large", class_order, f)
        self.assertEqual(class_order((1, 0, 250000)), 1)
        for f in ((1, 1, 250001), (1, 0, 250001), (1, 1, 10 ** 30)):
            refused(self, "large", class_order, f)
            self.assertEqual(class_power(f, 3), f)


class Groups(unittest.TestCase):
    def test_lists(self):
        for D in range(-400, 400):
            if slow.is_discriminant(D):
                self.assertEqual(class_list(D), tuple(slow.primitive(D)))

    def check_group(self, D):
        classes = slow.primitive(D)
        group = class_group(D)
        orders, generators = group
        self.assertEqual(len(orders), len(generators))
        self.assertTrue(all(order >= 2 for order in orders))
        self.assertFalse(any(after % before for before, after in zip(orders, orders[1:])))
        # Each class is the product of powers by exactly one row, which class_row tells.
        self.check_rows(D, group, classes)
        return group

    def check_rows(self, D, group, classes):
        orders, generators = group
        met = {}
        for row in itertools.product(*map(range, orders)):
            f = slow.told(slow.principal(D))
            for e, g in zip(row, generators):
                for _ in range(e):
                    f = slow.product(f, g)
            met[f] = row
        self.assertEqual(sorted(met), classes)
        for f in classes:
            self.assertEqual(class_row(group, f), met[f])

    def test_groups(self):
        for D in BELOW + ABOVE:
            self.check_group(D)

    def test_told_groups(self):
        for D, orders in ((-3, ()), (5, ()), (-23, (3,)), (-84, (2, 2)), (-420, (2, 2, 2)), (-260, (2, 4)), (40, (2,)),
                          (-3299, (3, 9)), (-3896, (3, 12)), (-4027, (3, 3)), (780, (2, 2, 2)), (229, (3,))):
            self.assertEqual(class_group(D)[0], orders, D)

    def test_groups_of_odd_order_that_are_not_cyclic(self):
        self.check_group(-3299)
        self.check_group(-4027)

    def test_rows_of_other_generators_and_forms(self):
        told = class_group(-260)[1]
        group = ((2, 4), (class_product(told[0], class_power(told[1], 2)), class_power(told[1], 3)))
        self.check_rows(-260, group, slow.primitive(-260))
        chance = random.Random(3)
        for f in slow.primitive(-260):
            self.assertEqual(class_row(group, slow.move(f, random_matrix(chance, 4, 5))), class_row(group, f))
        group = class_group(505)
        for f in slow.primitive(505):
            for g in slow.cycle(f):
                self.assertEqual(class_row(group, g), class_row(group, f))
        self.assertEqual(class_row(((), ()), (1, 1, 41)), ())

    def test_rounds_of_any_lattice(self):
        chance = random.Random(7)
        for _ in range(400):
            size = chance.randint(1, 5)
            table = tuple(tuple(chance.choice((0, 0, 1, 2, 3, 4, 6, -9, 10, 12)) for _ in range(size)) for _ in range(size))
            if determinant(table) == 0:
                continue
            space = span(table, size)
            told = rounds_of(space)
            self.assertEqual(tuple(order for order, _ in told), smith_divisors(table, size))
            for order, row in told:
                self.assertEqual(order_modulo(space, size, row), order)
            # The rows and the lattice span all rows, so they are generators.
            units = tuple(tuple(int(i == k) for k in range(size)) for i in range(size))
            self.assertEqual(span(space + tuple(row for _, row in told), size), units)

    def test_great_groups(self):
        for D in (-99991, -99999, -99960, -100000, 99996, 99985, 99960, 98280):
            orders, generators = class_group(D)
            number = 1
            for order, f in zip(orders, generators):
                self.assertEqual(class_order(f), order)
                number *= order
            classes = class_list(D)
            self.assertEqual(number, len(classes))
            self.assertEqual(list(classes), sorted(set(classes)))
            for f in classes[::17]:
                row = class_row((orders, generators), f)
                power = class_power(f, 0)
                for e, g in zip(row, generators):
                    power = class_product(power, class_power(g, e))
                self.assertEqual(power, f)

    def test_errors(self):
        for value in NO_DISCRIMINANTS:
            malformed(self, class_list, value)
            malformed(self, class_group, value)
        for value in NO_FORMS + NOT_PRIMITIVE:
            malformed(self, class_row, ((3,), ((2, 1, 3),)), value)
            malformed(self, class_row, None, value)
        for D in (-100003, -100004, 100001, 100004, 10 ** 70 + 1, -10 ** 70):
            refused(self, "large", class_list, D)
            refused(self, "large", class_group, D)
        for f in ((1, 1, 25001), (1, 0, 25001), (1, 1, -25000), (1, 0, -25001)):
            refused(self, "large", class_row, ((), ()), f)


class Relations(unittest.TestCase):
    def check_forms(self, D, forms):
        told = []
        if D > 0:
            told.append((-1, 0, D // 4) if D % 4 == 0 else (-1, 1, (D - 1) // 4))
        for l in range(2, 200):
            inside = 3 * l * l <= -D or 5 * l * l <= D
            if inside and slow.is_prime(l) and slow.sign(D, l) != -1:
                b = min(b for b in range(2 * l) if (b * b - D) % (4 * l) == 0)
                told.append((l, b, (b * b - D) // (4 * l)))
        self.assertEqual(forms, tuple(told))

    def check_relations(self, D):
        forms = prime_forms(D)
        self.check_forms(D, forms)
        table = class_relations(D)
        size = len(forms)
        self.assertEqual(len(table), size)
        for at, row in enumerate(table):
            self.assertTrue(is_row(row, size))
            self.assertEqual(row[:at], (0,) * at)
            self.assertGreater(row[at], 0)
            self.assertTrue(all(0 <= row[k] < table[k][k] for k in range(at + 1, size)))
            product = class_power(slow.principal(D), 0)
            for e, f in zip(row, forms):
                product = class_product(product, class_power(f, e))
            self.assertEqual(product, class_power(slow.principal(D), 0))
        # As many as the classes: there are no relations more.
        self.assertEqual(abs(determinant(table)), len(class_list(D)))
        self.assertEqual(tuple(d for d in smith_divisors(table, size) if d > 1), class_group(D)[0])

    def test_small(self):
        for D in range(-700, 700):
            if slow.is_discriminant(D) and is_fundamental(D):
                self.check_relations(D)

    def test_great(self):
        for D in (-99991, -99983, -95880, -99995, 99996, 99985, 99989, -3299, -4027):
            self.assertTrue(is_fundamental(D))
            self.check_relations(D)

    def test_edges(self):
        self.assertEqual((prime_forms(-3), class_relations(-3)), ((), ()))
        self.assertEqual((prime_forms(-4), class_relations(-4)), ((), ()))
        self.assertEqual((prime_forms(5), class_relations(5)), (((-1, 1, 1),), ((1,),)))
        self.assertEqual(prime_forms(-11), ())
        self.assertEqual(prime_forms(21), ((-1, 1, 5),))
        self.assertEqual(prime_forms(-15), ((2, 1, 2),))

    def test_errors(self):
        for function in (prime_forms, class_relations):
            for value in NO_DISCRIMINANTS:
                malformed(self, function, value)
            for D in (-100003, -100004, 100001, 100004, -100016, 100025, 10 ** 70 + 1, -10 ** 70):
                refused(self, "large", function, D)
            for D in (-12, -16, -27, -28, 20, 45, 32, -100000, 80000):
                refused(self, "fundamental", function, D)


if __name__ == "__main__":
    unittest.main()
