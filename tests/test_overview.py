"""Points 0.1 to 0.3: imports, arguments that stay as they are, equal results."""

import copy
import importlib
import unittest

from classledger.console import Console
from classledger.errors import Fault
from classledger.replies import Reply

UNIT = ((1, 0), (0, 1))
SMALL_CODE = ((1, 0, 0, 1, 0, 1, 1, 0), (0, 1, 0, 1, 0, 1, 0, 1), (0, 0, 1, 1, 0, 0, 1, 1), (0, 0, 0, 0, 1, 1, 1, 1))

# One call of each function of the interface, with lists where the document lets them stand.
CALLS = {
    "whole": (("is_integer", 5), ("common_divisor", 12, 18), ("combination", 12, 18), ("root", 80, 2),
              ("is_square", 81), ("exact_power", 64), ("inverse", 3, 7), ("power", 3, 4, 5), ("kronecker", 5, 3),
              ("joined", [(2, 3), (3, 5)]), ("read_integer", "-12")),
    "rows": (("is_row", (1, 2), 2), ("add", (1, 2), (3, 4)), ("scaled", (1, 2), 3), ("dot", (1, 2), (3, 4)),
             ("moved", (1, 2), [(2, 4), (3, 1)], 2), ("span", [(2, 4), (3, 1)], 2), ("rest", ((1, 7), (0, 10)), (5, 5)),
             ("holds", ((1, 7), (0, 10)), (2, 4)), ("kernel", [(2, 4), (3, 6)], 2),
             ("solve", [(2, 0), (0, 3)], 2, (4, 3)), ("bar", [(2, 0), (0, 3)], 2, (4, 4)),
             ("order_modulo", [(2, 0), (0, 3)], 2, (1, 1)), ("smith_divisors", [(2, 0), (0, 3)], 2),
             ("determinant", [(0, 2), (3, 1)])),
    "primes": (("is_prime", 97), ("primes_to", 30), ("next_prime", 100), ("factors", 360), ("divisors_of", 12),
               ("divisor_sum", 12, 1), ("root_of_order", 3, 7)),
    "proofs": (("prime_paper", 1000003), ("factors_paper", 12)),
    "squares": (("square_roots", 4, 15), ("told_pairs", 1, 25), ("ways_two", 25), ("ways_three", 3), ("ways_four", 6),
                ("ways_eight", 6), ("two_squares", 50), ("three_squares", 14), ("four_squares", 15)),
    "forms": (("is_discriminant", -23), ("is_form", (2, 1, 3)), ("is_matrix", ((1, 0), (0, 1))),
              ("discriminant", (2, 1, 3)), ("value_at", (2, 1, 3), 1, -2), ("content", (2, 0, 2)),
              ("is_primitive", (2, 1, 3)), ("moved_form", (10, 8, 3), ((0, -1), (1, 1))),
              ("matrix_product", ((0, -1), (1, 1)), ((1, 1), (0, 1))), ("inverse_matrix", ((0, -1), (1, 1))),
              ("principal_form", -23)),
    "definite": (("is_reduced", (2, 1, 3)), ("reduced_form", (10, 8, 3)), ("reduced_forms", -23), ("class_number", -23),
                 ("self_maps", (1, 0, 1)), ("hurwitz", 23), ("value_pairs", (1, 0, 1), 5)),
    "cycles": (("is_on_cycle", (3, 10, -5)), ("next_form", (3, 10, -5)), ("lead_in", (1, 0, -10)),
               ("cycle_of", (3, 4, -2)), ("turns_of", (3, 4, -2)), ("all_cycles", 12)),
    "units": (("least_unit", 61), ("minus_unit", 61), ("unit_power", 5, 2), ("narrow_number", 60), ("wide_number", 60)),
    "same": (("told_form", (10, 8, 3)), ("equivalence", (10, 8, 3), (3, -2, 5))),
    "values": (("value_roots", -23, 6), ("told_values", (2, 1, 3), 6)),
    "compose": (("composition", (1, 3, 3, 0), (0, 2, 2, 1)), ("composing_rows", (1, 0, 5), (2, 2, 3))),
    "signs": (("fundamental", -12), ("is_fundamental", -23), ("sign_sum", -23), ("number_by_signs", -23),
              ("number_by_conductor", -92), ("pairs_by_signs", -23, 6)),
    "classes": (("class_product", (2, 1, 3), (2, 1, 3)), ("class_power", (2, 1, 3), -1), ("class_order", (2, 1, 3)),
                ("class_list", -84), ("class_group", -260), ("class_row", ((3,), ((2, 1, 3),)), (2, -1, 3)),
                ("prime_forms", -84), ("class_relations", -84)),
    "genera": (("signs_of", -84), ("genus_of", (2, 2, 11)), ("all_genera", 40), ("class_root", (2, 1, 3))),
    "products": (("product_modulo", 5, 11), ("unit_modulo", 5, 11, 4), ("half_factorial", 23)),
    "sums": (("turn_sum", -3, -4), ("square_sum", 2), ("greater_sum", 2)),
    "curves": (("is_curve", (7, 1, 1)), ("is_point", (7, 1, 1), (0, 1)), ("point_negative", (7, 1, 1), (0, 1)),
               ("point_sum", (7, 1, 1), (0, 1), (0, 1)), ("point_multiple", (7, 1, 1), 5, (0, 1)),
               ("points_at", (7, 1, 1), 0), ("all_points", (5, 1, 0)), ("twist_of", (7, 1, 1))),
    "orders": (("point_count", (10007, 3, 5)), ("curve_trace", (7, 1, 1)), ("point_order", (7, 1, 1), (0, 1))),
    "pairing": (("weil_pairing", (5, 1, 0), 2, (0, 0), (2, 0)),),
    "groups": (("is_point_group", (5, 1, 0), ((0, 0), 2, (2, 0), 2)), ("whole_group", (5, 1, 0)),
               ("point_structure", (5, 1, 0)), ("row_of_point", (5, 1, 0), ((0, 0), 2, (2, 0), 2), (3, 0)),
               ("point_combination", (5, 1, 0), [(0, 0), (2, 0)], (3, 0)),
               ("point_logarithm", (7, 1, 1), (0, 1), (2, 5))),
    "alike": (("curve_turns", (7, 0, 1)), ("curve_invariant", (7, 1, 1)), ("told_curve", (7, 2, 6)),
              ("alike_change", (7, 1, 1), (7, 2, 1)), ("curve_of", 101, -3375)),
    "census": (("curve_census", 5), ("curves_with", 7, 1), ("curves_with_part", 7, 0, 2), ("curve_structures", 7, 0),
               ("number_over", 7, 3, 2), ("rational_invariant", -7), ("rational_traces", -7, 11)),
    "members": (("nonsquare_of", 7), ("is_member", 7, (1, 2)), ("member_sum", 7, (1, 2), (3, 1)),
                ("member_product", 7, (1, 2), (3, 1)), ("member_inverse", 7, (0, 1)),
                ("joining_value", 13, 2, (5, 0), (5, 0))),
    "graphs": (("supersingular_members", 37), ("member_weight", 11, (0, 0)), ("edge_table", 37, 2),
               ("brandt_table", 11, 4), ("loops_by_classes", 37, 2), ("graph_walk", 37, 2, (3, 10), (8, 0)),
               ("graph_distance", 37, 2, (3, 10), (8, 0)), ("curve_mark", 7, 1, 1)),
    "series": (("is_series", (1, 2)), ("check_length", 5), ("plus", (1, 2), (3, 4)), ("times", (1, 2), (3, 4)),
               ("multiple", (1, 2), 3), ("power", (1, 2), 3), ("unit_series", 3), ("shifted", (1, 2), 1),
               ("euler_product", 5, 24)),
    "level": (("eisenstein", 4, 5), ("delta", 5), ("dimension", 24), ("generators", 24, 5), ("echelon", 24, 5),
              ("coordinates", (1, 240, 2160), 4), ("first_unlike", (1, 240, 2161), 4), ("form_of", (1, 2), 12, 5)),
    "hecke": (("operated", (1, 240, 2160, 6720), 2, 4), ("hecke_matrix", 24, 2), ("hecke_trace", 24, 2),
              ("power_traces", 24, 2, 3), ("characteristic", [(0, 1), (2, 3)]), ("from_traces", (1, 3)), ("tau", 6)),
    "traces": (("weight_number", 12, 1, 2), ("class_side", 12, 2), ("class_terms", 12, 2), ("trace_by_classes", 12, 2),
               ("dimension_by_classes", 12), ("characteristic_by_classes", 24, 2)),
    "codes": (("is_code", ((1, 1),), 2), ("code_of", [(1, 1, 0), (1, 0, 1)], 3), ("weights", ((1, 1),), 2),
              ("is_doubly_even", ((1, 1, 1, 1),), 4), ("is_self_dual", ((1, 1),), 2), ("small_code",), ("pair_code", 16),
              ("golay_code",), ("sum_of_codes", ((1, 1),), 2, ((1, 1),), 2)),
    "lattices": (("theta_of_code", SMALL_CODE, 8, 4), ("roots_of_code", SMALL_CODE, 8), ("parts_of_roots", SMALL_CODE, 8),
                 ("is_table", ((2, 1), (1, 2))), ("norm", ((2, 1), (1, 2)), (1, -3)), ("short_rows", ((2, 1), (1, 2)), 8),
                 ("theta_of_table", ((2, 1), (1, 2)), 5), ("e_eight",)),
    "primechecker": (("takes_prime", 91, ("factor", 7)), ("takes_factors", 7, ("factors", ((7, 1, ("small",)),))),
                     ("takes_two", 5, ("squares", 1, 2)), ("takes_three", 7, ("none", 0, 0)),
                     ("takes_four", 7, ("squares", 1, 1, 1, 2))),
    "formpapers": (("same_paper", (2, 1, 3), (2, -1, 3)), ("value_paper", (2, 1, 3), 6), ("unit_paper", 60),
                   ("minus_paper", 60), ("classes_paper", -84), ("composed_paper", (2, 1, 3), (2, 1, 3)),
                   ("square_paper", (2, 2, 11))),
    "formchecker": (("takes_same", (2, 1, 3), (2, 1, 3), ("same", UNIT)), ("takes_value", (2, 1, 3), 6, ("value", 1, 1)),
                    ("takes_unit", 12, ("unit", 4, 1, ((-1, -1), (0, -1)), (-1, 2))), ("takes_minus", 5, ("minus", 1, 1)),
                    ("takes_composed", (1, 0, 1), (1, 0, 1), (1, 0, 1), ("composed", (1, 0, 0, -1), (0, 1, 1, 0), UNIT)),
                    ("takes_classes", -3, ("classes", (), (), (((1, 1, 1), (), UNIT),), ())),
                    ("takes_square", (2, 2, 11), ("sign", 0, 1, -4))),
    "curvepapers": (("order_paper", (7, 1, 1), (0, 1)), ("number_paper", (5, 1, 0)), ("log_paper", (5, 1, 0), (0, 0), (2, 0)),
                    ("alike_paper", (7, 1, 1), (7, 2, 1))),
    "curvechecker": (("takes_order", (7, 1, 1), (0, 1), ("order", 5, (5,))),
                     ("takes_number", (7, 1, 1), ("number", ((0, 1), 5, (), 1), ((1, 3), 11, (), 1))),
                     ("takes_log", (7, 1, 1), (0, 1), (2, 5), ("log", 2)), ("takes_curves", (7, 1, 1), (7, 2, 1), ("same", 2))),
    "seriespapers": (("goes_paper", (1, 240, 2161), 4), ("trace_paper", 12, 2)),
    "serieschecker": (("takes_goes", (1, 240, 2160), 4, ("goes", (1,))),
                      ("takes_trace", 4, 1, ("trace", 0, ((-2, ()), (-1, ((1, 1, 1),)), (0, ((1, 0, 1),)), (1, ((1, 1, 1),)),
                                                          (2, ()))))),
    "sheet": (("read_line", "order e 0,1"),),
    "replies": (("reply_to", {"f": ("form", (2, 1, 3))}, "value f 6"), ("defined", {"e": ("curve", (7, 1, 1))}, "twist e e"),
                ("is_right", {"f": ("form", (2, 1, 3))}, ("show f", Reply("form", "2 1 3")))),
    "log": (("write_data", (1, ("a",))), ("read_data", "(1 (a))"), ("write_log", [("x", Reply("error", "text"))]),
            ("read_log", "> x\n= error text\n# ()\n"), ("first_wrong", [("x", Reply("error", "text")), None])),
}

# Calls that raise an error, with lists and dicts among their arguments.
REFUSED = {
    "forms": (("discriminant", [2, 1, 3]), ("moved_form", (2, 1, 3), [[1, 0], [0, 1]])),
    "same": (("equivalence", [1, 0, 1], [1, 0, 1]),),
    "groups": (("point_combination", (5, 1, 0), [(0, 0), [2, 0]], (3, 0)),),
    "codes": (("code_of", [[1, 0], [0, 1]], 2), ("weights", [(1, 1)], 2)),
    "lattices": (("short_rows", [[2]], 2), ("theta_of_code", [(1, 1)], 2, 3)),
    "hecke": (("operated", [1, 2], 2, 4), ("from_traces", (1, 2))),
    "formpapers": (("same_paper", [2, 1, 3], {}), ("value_paper", (2, 1, 3), [6])),
    "curvepapers": (("log_paper", (5, 1, 0), [0, 0], {}), ("alike_paper", [7, 1, 1], (7, 2, 1))),
    "seriespapers": (("goes_paper", [1, 240], 4), ("trace_paper", [12], {})),
    "sheet": (("read_line", ["show f"]), ("read_line", {"show": "f"})),
    "log": (("write_data", [1, [2]]), ("write_data", (1, [2], {"a": 1})), ("read_data", ["(1)"]), ("read_log", [""]),
            ("write_log", [("x", Reply("error", "text", [1, [2]]))]), ("write_log", [("x", Reply("error", ["text"])), {}])),
}

# Calls with lists and dicts in the place of papers, lines and entries: they tell no, and change nothing.
BENT = {
    "primechecker": (("takes_prime", 7, ["small"]), ("takes_factors", 4, ("factors", [[2, 2, ["small"]]])),
                     ("takes_two", 5, ["squares", 1, 2]), ("takes_three", 7, ["none", 0, 0]), ("takes_four", 4, [{}])),
    "formchecker": (("takes_same", (2, 1, 3), (2, 1, 3), ("same", [[1, 0], [0, 1]])), ("takes_value", (2, 1, 3), 6, ["value", 1, 1]),
                    ("takes_unit", 12, ("unit", 4, 1, ((-1, -1), (0, -1)), [-1, 2])), ("takes_minus", 5, ["minus", 1, 1]),
                    ("takes_classes", -3, ("classes", [], [], [((1, 1, 1), (), UNIT)], []))),
    "curvechecker": (("takes_order", (7, 1, 1), (0, 1), ("order", 5, [5])), ("takes_curves", (7, 1, 1), (7, 2, 1), ["same", 2])),
    "serieschecker": (("takes_goes", (1, 240, 2160), 4, ("goes", [1])), ("takes_trace", 4, 1, ("trace", 0, [{}]))),
    "replies": (("is_right", {"f": ("form", (2, 1, 3))}, ["show f", Reply("form", "2 1 3")]),
                ("is_right", {}, ("tau 1", Reply("number", "1", [1, [2]]))), ("is_right", {}, {"a": [1]})),
}


def plain(value):
    """Tell whether a result is made of integers, strings, booleans, None, tuples and replies alone."""
    if type(value) is tuple:
        return all(map(plain, value))
    if type(value) is Reply:
        return plain((value.kind, value.text, value.data))
    return value is None or type(value) in (int, str, bool)


def calls(table):
    """Yield each function of a table with its arguments."""
    for module, rows in table.items():
        space = importlib.import_module("classledger." + module)
        for name, *arguments in rows:
            yield getattr(space, name), arguments


def told(value):
    """Return a value with its kinds, so that True and 1 differ."""
    if isinstance(value, (tuple, list)):
        return (type(value), [told(item) for item in value])
    if isinstance(value, dict):
        return (dict, [(key, told(item)) for key, item in value.items()])
    if isinstance(value, Reply):
        return (Reply, told((value.kind, value.text, value.data)))
    return (type(value), value)


class Overview(unittest.TestCase):
    def test_every_function(self):
        for function, arguments in calls(CALLS):
            before = told(arguments)
            first = function(*arguments)
            self.assertEqual(told(arguments), before, function.__name__)
            self.assertTrue(plain(first) or function.__name__ == "read_log", function.__name__)
            kept = told(first)
            again = function(*copy.deepcopy(arguments))
            self.assertEqual(told(again), kept, function.__name__)
            self.assertEqual(told(first), kept, function.__name__)

    def test_refused_calls(self):
        for function, arguments in calls(REFUSED):
            before = told(arguments)
            for _ in range(2):
                with self.assertRaises(Fault):
                    function(*arguments)
                self.assertEqual(told(arguments), before, function.__name__)

    def test_bent_calls(self):
        for function, arguments in calls(BENT):
            before = told(arguments)
            for _ in range(2):
                self.assertIs(function(*arguments), False, function.__name__)
                self.assertEqual(told(arguments), before, function.__name__)

    def test_yes_and_no_are_booleans(self):
        for function, arguments in calls(CALLS):
            if function.__name__.startswith(("is_", "takes_")) or function.__name__ == "holds":
                self.assertIs(function(*arguments), True, function.__name__)

    def test_where_they_stand(self):
        for module, rows in CALLS.items():
            space = importlib.import_module("classledger." + module)
            for name, *_ in rows:
                self.assertEqual(getattr(space, name).__module__, "classledger." + module)
        for place, kind, methods in (("replies", Reply, ("__init__", "__eq__")),
                                     ("console", Console, ("__init__", "enter", "__len__", "__iter__", "names", "log"))):
            self.assertEqual(kind.__module__, "classledger." + place)
            for method in methods:
                self.assertIn(method, vars(kind))


if __name__ == "__main__":
    unittest.main()
