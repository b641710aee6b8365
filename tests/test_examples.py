"""The examples of the interface, answer by answer."""

import doctest
import pathlib
import unittest

README = pathlib.Path(__file__).resolve().parent.parent / "README.md"

# Word for word those of the document but one: its matrix hecke_matrix(24, 2) has rows and columns exchanged. Point 12.2
# says that the row j has the items of T_n f_j, and T_2 f_1 begins with 0, 20468736; so that is what is asked for here.
EXAMPLES = {
    "whole": """
>>> from classledger.whole import common_divisor, exact_power, inverse, joined, kronecker, root
>>> common_divisor(-12, 18), root(80, 2), exact_power(64)
(6, 8, (2, 6))

>>> inverse(3, 7), inverse(2, 4), kronecker(-23, 2), kronecker(5, 3), kronecker(-4, -1)
(5, None, 1, -1, -1)

>>> joined(((2, 3), (3, 5))), joined(((1, 4), (3, 6))), joined(((1, 4), (2, 6)))
((8, 15), (9, 12), None)
""",
    "rows": """
>>> from classledger.rows import bar, kernel, order_modulo, smith_divisors, solve, span
>>> span(((2, 4), (3, 1)), 2), kernel(((2, 4), (3, 6)), 2)
(((1, 7), (0, 10)), ((3, -2),))

>>> solve(((2, 0), (0, 3)), 2, (4, 3)), bar(((2, 0), (0, 3)), 2, (4, 3)) is None
((2, 1), True)

>>> order_modulo(((2, 0), (0, 3)), 2, (1, 1)), smith_divisors(((2, 0), (0, 3)), 2)
(6, (1, 6))
""",
    "primes": """
>>> from classledger.primes import divisor_sum, divisors_of, factors, is_prime, next_prime, root_of_order
>>> is_prime(1000003), next_prime(100), factors(360)
(True, 101, ((2, 3), (3, 2), (5, 1)))

>>> divisors_of(12), divisor_sum(12, 1), divisor_sum(12, 0), root_of_order(3, 7)
((1, 2, 3, 4, 6, 12), 28, 6, 2)
""",
    "proofs": """
>>> from classledger.proofs import factors_paper, prime_paper
>>> prime_paper(7), prime_paper(91), factors_paper(12)
(('small',), ('factor', 7), ('factors', ((2, 2, ('small',)), (3, 1, ('small',)))))
""",
    "squares": """
>>> from classledger.squares import square_roots, told_pairs, two_squares, ways_three, ways_two
>>> square_roots(4, 15), square_roots(-1, 12), square_roots(0, 8)
((2, 7, 8, 13), (), (0, 4))

>>> told_pairs(1, 25), told_pairs(2, 9), told_pairs(23, 59)
(((0, 5), (3, 4), (4, 3), (5, 0)), ((1, 2), (3, 0)), ((6, 1),))

>>> ways_two(25), ways_three(3), two_squares(50), two_squares(21)
(12, 8, ('squares', 1, 7), ('none', 3, 1, ('small',)))
""",
    "forms": """
>>> from classledger.forms import discriminant, inverse_matrix, moved_form, principal_form, value_at
>>> discriminant((2, 1, 3)), value_at((2, 1, 3), 1, -2), principal_form(-23), principal_form(40)
(-23, 12, (1, 1, 6), (1, 0, -10))

>>> moved_form((10, 8, 3), ((0, -1), (1, 1))), inverse_matrix(((0, -1), (1, 1)))
((3, -2, 5), ((1, 1), (-1, 0)))
""",
    "definite": """
>>> from classledger.definite import class_number, hurwitz, is_reduced, reduced_form, reduced_forms, self_maps, value_pairs
>>> reduced_form((10, 8, 3))[0], is_reduced((2, -2, 3)), is_reduced((2, 2, 3))
((3, -2, 5), False, True)

>>> reduced_forms(-23), reduced_forms(-12), class_number(-12)
(((1, 1, 6), (2, -1, 3), (2, 1, 3)), ((1, 0, 3), (2, 2, 2)), 1)

>>> [hurwitz(n) for n in (0, 1, 3, 4, 7, 8, 11, 12, 15, 16, 23)]
[-1, 0, 4, 6, 12, 12, 12, 16, 24, 18, 36]

>>> len(self_maps((3, 3, 3))), self_maps((1, 0, 1))
(6, (((-1, 0), (0, -1)), ((0, -1), (1, 0)), ((0, 1), (-1, 0)), ((1, 0), (0, 1))))

>>> value_pairs((1, 0, 1), 5), value_pairs((2, 1, 3), 5)
(((-2, -1), (-2, 1), (-1, -2), (-1, 2), (1, -2), (1, 2), (2, -1), (2, 1)), ())
""",
    "cycles": """
>>> from classledger.cycles import all_cycles, cycle_of, is_on_cycle, lead_in, next_form, turns_of
>>> next_form((3, 10, -5)), is_on_cycle((3, 10, -5)), is_on_cycle((1, 6, -1))
(((-5, 10, 3), -2), True, True)

>>> cycle_of((3, 4, -2)), turns_of((3, 4, -2))
(((3, 4, -2), (-2, 4, 3), (3, 2, -3), (-3, 4, 2), (2, 4, -3), (-3, 2, 3)), (-2, 1, -1, 2, -1, 1))

>>> all_cycles(12), lead_in((1, 0, -10))
((((-2, 2, 1), (1, 2, -2)), ((-1, 2, 2), (2, 2, -1))), ((1, 6, -1), ((-1, -3), (0, -1))))
""",
    "units": """
>>> from classledger.units import least_unit, minus_unit, narrow_number, unit_power, wide_number
>>> least_unit(61), minus_unit(61), least_unit(28), minus_unit(28)
((1523, 195), (39, 5), (16, 3), None)

>>> unit_power(5, 2), narrow_number(60), wide_number(60), narrow_number(229), wide_number(229)
((7, 3), 4, 2, 3, 3)
""",
    "same": """
>>> from classledger.same import equivalence, told_form
>>> told_form((10, 8, 3))[0], told_form((3, 4, -2))[0], equivalence((2, 1, 3), (2, -1, 3)) is None
((3, -2, 5), (-3, 2, 3), True)
""",
    "values": """
>>> from classledger.values import told_values, value_roots
>>> value_roots(-23, 6), value_roots(40, -1), [b for b, x, y in told_values((2, 1, 3), 6)]
((1, 5, 7, 11), (0,), [7])
""",
    "compose": """
>>> from classledger.compose import composing_rows, composition
>>> composition((1, 3, 3, 0), (0, 2, 2, 1))
((2, 1, 3), (2, 1, 3), (4, -11, 9))

>>> composition(*composing_rows((1, 0, 5), (2, 2, 3)))[:2]
((1, 0, 5), (2, 2, 3))
""",
    "signs": """
>>> from classledger.signs import fundamental, number_by_conductor, number_by_signs, pairs_by_signs, sign_sum
>>> fundamental(-12), fundamental(180), sign_sum(-23), number_by_signs(-23)
((-3, 2), (5, 6), -69, 3)

>>> number_by_conductor(-92), number_by_conductor(-27), number_by_conductor(45), pairs_by_signs(-23, 6)
(3, 1, 2, 8)
""",
    "classes": """
>>> from classledger.classes import class_group, class_list, class_order, class_power, class_product, class_relations, prime_forms
>>> class_product((2, 1, 3), (2, 1, 3)), class_power((2, 1, 3), -1), class_order((2, 1, 3))
((2, -1, 3), (2, -1, 3), 3)

>>> class_list(-84), class_group(-260)[0], class_group(40)
(((1, 0, 21), (2, 2, 11), (3, 0, 7), (5, 4, 5)), (2, 4), ((2,), ((-3, 2, 3),)))

>>> prime_forms(-84), class_relations(-84), prime_forms(12), class_relations(12)
(((2, 2, 11), (3, 0, 7), (5, 4, 5)), ((1, 1, 1), (0, 2, 0), (0, 0, 2)), ((-1, 0, 3),), ((2,),))
""",
    "genera": """
>>> from classledger.genera import all_genera, class_root, genus_of, signs_of
>>> signs_of(-84), genus_of((2, 2, 11)), signs_of(40), all_genera(40)
((-7, -4, -3), (1, -1, -1), (5, 8), (((-1, -1), ((-3, 2, 3),)), ((1, 1), ((-1, 6, 1),))))

>>> class_root((2, 1, 3)), class_root((2, 2, 11))
((2, -1, 3), None)
""",
    "products": """
>>> from classledger.products import half_factorial, product_modulo, unit_modulo
>>> product_modulo(5, 11), unit_modulo(5, 11, 4), half_factorial(23)
((4, 9), 9, 1)
""",
    "sums": """
>>> from classledger.sums import greater_sum, square_sum, turn_sum
>>> turn_sum(-3, -4), square_sum(2), greater_sum(2)
(2, 48, 48)
""",
    "curves": """
>>> from classledger.curves import all_points, point_multiple, point_sum, twist_of
>>> point_sum((7, 1, 1), (0, 1), (0, 1)), point_multiple((7, 1, 1), 5, (0, 1))
((2, 5), ())

>>> all_points((5, 1, 0))
((), (0, 0), (2, 0), (3, 0))

>>> twist_of((7, 1, 1))
(7, 2, 6)
""",
    "orders": """
>>> from classledger.orders import curve_trace, point_count, point_order
>>> point_count((7, 1, 1)), curve_trace((7, 1, 1)), point_order((7, 1, 1), (0, 1))
(5, 3, 5)

>>> point_count((10007, 3, 5))
10125
""",
    "pairing": """
>>> from classledger.pairing import weil_pairing
>>> weil_pairing((5, 1, 0), 2, (0, 0), (2, 0)), weil_pairing((5, 1, 0), 2, (0, 0), (0, 0))
(4, 1)
""",
    "groups": """
>>> from classledger.groups import point_combination, point_logarithm, point_structure, row_of_point
>>> point_structure((5, 1, 0)), point_structure((10007, 3, 5))
((2, 2), (1, 10125))

>>> row_of_point((5, 1, 0), ((0, 0), 2, (2, 0), 2), (3, 0))
(1, 1)

>>> point_logarithm((7, 1, 1), (0, 1), (2, 5)), point_logarithm((5, 1, 0), (0, 0), (2, 0))
(2, None)

>>> point_combination((5, 1, 0), ((0, 0),), (3, 0)) is None
True
""",
    "alike": """
>>> from classledger.alike import alike_change, curve_invariant, curve_of, curve_turns, told_curve
>>> curve_turns((7, 0, 1)), curve_turns((7, 1, 0)), curve_turns((7, 1, 1)), curve_invariant((7, 1, 1))
(6, 2, 2, 1)

>>> told_curve((7, 2, 6)), alike_change((7, 1, 1), (7, 2, 1)), alike_change((7, 1, 1), (7, 2, 6))
((7, 1, 6), 2, None)

>>> curve_of(101, -3375)
(101, 91, 27)
""",
    "census": """
>>> from classledger.census import curve_census, curve_structures, curves_with, rational_traces
>>> curve_census(5)[:3], len(curve_census(5))
(((0, 1, 2, 0), (0, 2, 2, 0), (1, 0, 4, 2)), 12)

>>> [curves_with(7, t) for t in range(6)], curve_structures(7, 0)
([6, 4, 6, 3, 4, 1], (((1, 8), 3), ((2, 4), 3)))

>>> rational_traces(-7, 11), rational_traces(-3, 7), rational_traces(-4, 7)
((-4, 4), (-5, -4, -1, 1, 4, 5), (0,))
""",
    "members": """
>>> from classledger.members import joining_value, member_inverse, member_product, nonsquare_of
>>> nonsquare_of(7), member_product(7, (1, 2), (3, 1)), member_inverse(7, (0, 1))
(3, (2, 0), (0, 5))

>>> joining_value(13, 2, (5, 0), (5, 0)), joining_value(13, 3, (5, 0), (5, 0))
((0, 0), (0, 0))
""",
    "graphs": """
>>> from classledger.graphs import brandt_table, curve_mark, edge_table, graph_distance, graph_walk, loops_by_classes, member_weight, supersingular_members
>>> supersingular_members(37), edge_table(37, 2)
(((3, 10), (3, 27), (8, 0)), ((0, 2, 1), (2, 0, 1), (1, 1, 1)))

>>> [member_weight(11, j) for j in supersingular_members(11)], edge_table(11, 2), brandt_table(11, 4)
([3, 2], ((0, 3), (2, 1)), ((4, 3), (2, 5)))

>>> loops_by_classes(37, 2), loops_by_classes(11, 4)
(1, 9)

>>> graph_walk(37, 2, (3, 10), (8, 0))
((3, 10), (8, 0))

>>> curve_mark(7, 1, 1)
3
""",
    "level": """
>>> from classledger.level import coordinates, delta, dimension, echelon, eisenstein
>>> delta(6)
(0, 1, -24, 252, -1472, 4830)

>>> dimension(24), echelon(24, 5)
(3, ((1, 0, 0, 52416000, 39007332000), (0, 1, 0, 195660, 12080128), (0, 0, 1, -48, 1080)))

>>> coordinates(eisenstein(8, 10), 8), eisenstein(4, 4)
((1,), (1, 240, 2160, 6720))
""",
    "hecke": """
>>> from classledger.hecke import characteristic, hecke_matrix, hecke_trace, tau
>>> tau(2), tau(6), hecke_trace(12, 2)
(-24, -6048, -24)

>>> hecke_matrix(24, 2), characteristic(hecke_matrix(24, 2))
(((0, 20468736), (1, 1080)), (1, -1080, -20468736))
""",
    "traces": """
>>> from classledger.traces import characteristic_by_classes, class_terms, trace_by_classes
>>> class_terms(12, 2)
((-2, 32, 6), (-1, 23, 12), (0, -32, 12), (1, 23, 12), (2, 32, 6))

>>> trace_by_classes(12, 2), characteristic_by_classes(24, 2)
(-24, (1, -1080, -20468736))
""",
    "codes and lattices": """
>>> from classledger.codes import golay_code, small_code, weights
>>> small_code()
((1, 0, 0, 1, 0, 1, 1, 0), (0, 1, 0, 1, 0, 1, 0, 1), (0, 0, 1, 1, 0, 0, 1, 1), (0, 0, 0, 0, 1, 1, 1, 1))

>>> weights(small_code(), 8), weights(golay_code(), 24)[8]
((1, 0, 0, 0, 14, 0, 0, 0, 1), 759)

>>> from classledger.lattices import e_eight, short_rows, theta_of_code
>>> theta_of_code(small_code(), 8, 4), len(short_rows(e_eight(), 2))
((1, 240, 2160, 6720), 240)
""",
    "papers of series and forms": """
>>> from classledger.seriespapers import goes_paper, trace_paper
>>> goes_paper((1, 240, 2160, 6720), 4), goes_paper((1, 240, 2160, 6721), 4)
(('goes', (1,)), ('bar', (1,), 3))

>>> trace_paper(12, 1)
('trace', 1, ((-2, ()), (-1, ((1, 1, 1),)), (0, ((1, 0, 1),)), (1, ((1, 1, 1),)), (2, ())))

>>> from classledger.formpapers import same_paper
>>> same_paper((1, 0, 1), (1, 0, 1))[0]
'same'
""",
    "console": """
>>> from classledger.console import Console
>>> console = Console()
>>> console.enter("form f = 2 1 3").text, console.enter("product g f f").text, console.enter("alike f g").text
('2 1 3', '2 -1 3', 'no')

>>> console.enter("forms -23").text, console.enter("classes -23").text, console.enter("twelve 23").text
('3', '3 3', '36')

>>> console.enter("curve e = 7 1 1").kind, console.enter("points e").text, console.enter("order e 0,1").text
('curve', '5 1 5', '5')

>>> console.enter("unit 61").text, console.enter("minus 28").text, console.enter("prime 91").text
('1523 195', 'none', 'no')

>>> console.enter("trace 12 2").text, console.enter("goes 4 1 240 2160 6721").text, console.enter("show h").text
('-24', 'no', 'refused name')
""",
}


class Examples(unittest.TestCase):
    def test_examples(self):
        for name, text in EXAMPLES.items():
            test = doctest.DocTestParser().get_doctest(text, {}, name, None, 0)
            told = []
            result = doctest.DocTestRunner(verbose=False).run(test, out=told.append)
            self.assertGreater(result.attempted, 1)
            self.assertEqual(result.failed, 0, "".join(told))

    def test_readme(self):
        result = doctest.testfile(str(README), module_relative=False)
        self.assertGreater(result.attempted, 5)
        self.assertEqual(result.failed, 0)


if __name__ == "__main__":
    unittest.main()
