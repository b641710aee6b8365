"""Points 0.1 to 0.3: imports, arguments that stay as they are, equal results."""

import copy
import importlib
import unittest

# One call of each function of the interface, with lists where the document lets them stand.
CALLS = {
    "whole": (("is_integer", 5), ("common_divisor", 12, 18), ("combination", 12, 18), ("root", 80, 2),
              ("is_square", 81), ("exact_power", 64), ("inverse", 3, 7), ("power", 3, 4, 5), ("kronecker", 5, 3),
              ("joined", [(2, 3), (3, 5)]), ("read_integer", "-12")),
    "rows": (("is_row", (1, 2), 2), ("add", (1, 2), (3, 4)), ("scaled", (1, 2), 3), ("dot", (1, 2), (3, 4)),
             ("moved", (1, 2), [(2, 4), (3, 1)], 2), ("span", [(2, 4), (3, 1)], 2), ("rest", ((1, 7), (0, 10)), (5, 5)),
             ("holds", ((1, 7), (0, 10)), (2, 4)), ("kernel", [(2, 4), (3, 6)], 2),
             ("solve", [(2, 0), (0, 3)], 2, (4, 3)), ("bar", [(2, 0), (0, 3)], 2, (4, 4)),
             ("order_modulo", [(2, 0), (0, 3)], 2, (1, 1)), ("smith_divisors", [(2, 0), (0, 3)], 2),
             ("determinant", [(0, 2), (3, 1)])),
    "primes": (("is_prime", 97), ("primes_to", 30), ("next_prime", 100), ("factors", 360), ("divisors_of", 12),
               ("divisor_sum", 12, 1), ("root_of_order", 3, 7)),
    "proofs": (("prime_paper", 1000003), ("factors_paper", 12)),
    "squares": (("square_roots", 4, 15), ("told_pairs", 1, 25), ("ways_two", 25), ("ways_three", 3), ("ways_four", 6),
                ("ways_eight", 6), ("two_squares", 50), ("three_squares", 14), ("four_squares", 15)),
    "forms": (("is_discriminant", -23), ("is_form", (2, 1, 3)), ("is_matrix", ((1, 0), (0, 1))),
              ("discriminant", (2, 1, 3)), ("value_at", (2, 1, 3), 1, -2), ("content", (2, 0, 2)),
              ("is_primitive", (2, 1, 3)), ("moved_form", (10, 8, 3), ((0, -1), (1, 1))),
              ("matrix_product", ((0, -1), (1, 1)), ((1, 1), (0, 1))), ("inverse_matrix", ((0, -1), (1, 1))),
              ("principal_form", -23)),
    "definite": (("is_reduced", (2, 1, 3)), ("reduced_form", (10, 8, 3)), ("reduced_forms", -23), ("class_number", -23),
                 ("self_maps", (1, 0, 1)), ("hurwitz", 23), ("value_pairs", (1, 0, 1), 5)),
    "cycles": (("is_on_cycle", (3, 10, -5)), ("next_form", (3, 10, -5)), ("lead_in", (1, 0, -10)),
               ("cycle_of", (3, 4, -2)), ("turns_of", (3, 4, -2)), ("all_cycles", 12)),
    "units": (("least_unit", 61), ("minus_unit", 61), ("unit_power", 5, 2), ("narrow_number", 60), ("wide_number", 60)),
    "same": (("told_form", (10, 8, 3)), ("equivalence", (10, 8, 3), (3, -2, 5))),
    "values": (("value_roots", -23, 6), ("told_values", (2, 1, 3), 6)),
    "compose": (("composition", (1, 3, 3, 0), (0, 2, 2, 1)), ("composing_rows", (1, 0, 5), (2, 2, 3))),
    "signs": (("fundamental", -12), ("is_fundamental", -23), ("sign_sum", -23), ("number_by_signs", -23),
              ("number_by_conductor", -92), ("pairs_by_signs", -23, 6)),
}


def plain(value):
    """Tell whether a result is made of integers, strings, booleans, None and tuples alone."""
    if type(value) is tuple:
        return all(map(plain, value))
    return value is None or type(value) in (int, str, bool)


class Overview(unittest.TestCase):
    def test_every_function(self):
        for module, calls in CALLS.items():
            space = importlib.import_module("classledger." + module)
            for name, *arguments in calls:
                function = getattr(space, name)
                self.assertEqual(function.__module__, "classledger." + module)
                before = copy.deepcopy(arguments)
                told = function(*arguments)
                self.assertEqual(arguments, before, name)
                self.assertTrue(plain(told), name)
                again = function(*before)
                self.assertEqual((again, type(again)), (told, type(told)), name)

    def test_yes_and_no_are_booleans(self):
        for module, calls in CALLS.items():
            space = importlib.import_module("classledger." + module)
            for name, *arguments in calls:
                if name.startswith("is_") or name == "holds":
                    self.assertIs(getattr(space, name)(*arguments), True, name)


if __name__ == "__main__":
    unittest.main()
