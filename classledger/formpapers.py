"""The makers of the papers of forms."""

from classledger.classes import check_primitive, class_group, class_list
from classledger.compose import check_pair, composing_rows, composition
from classledger.cycles import check_cyclic, check_walked, lead, walk, with_turn
from classledger.definite import reduction
from classledger.errors import Malformed, Refused
from classledger.formchecker import last_exponent, strides_of
from classledger.forms import (
    check_discriminant, check_form, inverse_matrix, matrix_product, told_discriminant, told_principal, told_value)
from classledger.genera import class_root, free_pair, signs_of
from classledger.same import matrix_between, told_by_steps
from classledger.units import least_unit, minus_unit
from classledger.values import value_roots
from classledger.whole import kronecker

# Papers are refused for discriminants beyond them.
LEAST = -10 ** 12
LARGEST_CLASSES = 10000


def _check_size(D):
    """Refuse a discriminant that is too great or too small."""
    check_walked(D)
    if D < LEAST:
        raise Refused("large")


def same_paper(f, g):
    """Return a paper that two forms of one D are equivalent, or that they are not."""
    check_form(f)
    check_form(g)
    if told_discriminant(f) != told_discriminant(g):
        raise Malformed("unlike discriminants")
    _check_size(told_discriminant(f))
    return _same(f, g)


def _same(f, g):
    """Return the paper of same_paper, for items of any size."""
    if told_discriminant(f) > 0:
        return _same_by_steps(f, g)
    one, m = reduction(f)
    two, n = reduction(g)
    return ("same", matrix_product(m, inverse_matrix(n))) if one == two else ("apart", m, n)


def _same_by_steps(f, g):
    """Return the paper of same_paper for indefinite forms."""
    one, m = lead(f)
    two, n = lead(g)
    forms, turns = walk(one)
    if two not in forms:
        return ("apart", m, tuple(turns), n)
    # On from the one form to the other: by way of the told form the matrix could be twice as long.
    for t in turns[:forms.index(two)]:
        m = with_turn(m, t)
    return ("same", matrix_product(m, inverse_matrix(n)))


def value_paper(f, n):
    """Return a paper that f has the value n at a pair without common divisor, or that it has not."""
    check_form(f)
    D = told_discriminant(f)
    roots = value_roots(D, n)
    _check_size(D)
    rows = []
    for b in roots:
        paper = _same(f, (n, b, (b * b - D) // (4 * n)))
        if paper[0] == "same":
            (x, _), (y, _) = paper[1]
            return ("value", x, y)
        rows.append((b, paper))
    return ("none", tuple(rows))


def _principal_turns(D):
    """Return the matrix that leads the principal form to a cycle, and the tuple of the turns there."""
    f, m = lead(told_principal(D))
    _, turns = walk(f)
    return m, tuple(turns)


def unit_paper(D):
    """Return a paper of the least unit of D."""
    check_cyclic(D)
    return ("unit",) + least_unit(D) + _principal_turns(D)


def minus_paper(D):
    """Return a paper that t^2 - D u^2 = -4 has a solution, or that it has none."""
    check_cyclic(D)
    pair = minus_unit(D)
    if pair is None:
        return ("none",) + _principal_turns(D)
    return ("minus",) + pair


def _step(f, g):
    """Return the told form of the product of two classes, the rows that compose f and g, and the matrix."""
    p, q = composing_rows(f, g)
    told, m = told_by_steps(composition(p, q)[2])
    return told, (p, q), m


def composed_paper(f, g):
    """Return a paper that the class of a told form is the product of those of f and g."""
    check_pair(f, g)
    _check_size(told_discriminant(f))
    _, (p, q), m = _step(f, g)
    return ("composed", p, q, m)


def classes_paper(D):
    """Return a paper of the class group of D."""
    check_discriminant(D)
    if abs(D) > LARGEST_CLASSES:
        raise Refused("large")
    orders, generators = class_group(D)
    first, m = told_by_steps(told_principal(D))
    rows = [(first, (), m)]
    strides = strides_of(orders)
    for at in range(1, len(class_list(D))):
        last = last_exponent(strides, at)
        rows.append(_step(rows[at - strides[last]][0], generators[last]))
    wraps = []
    for order, generator, stride in zip(orders, generators, strides):
        p, q = composing_rows(rows[(order - 1) * stride][0], generator)
        wraps.append((p, q, matrix_between(composition(p, q)[2], first)))
    return ("classes", orders, generators, tuple(rows), tuple(wraps))


def square_paper(f):
    """Return a paper that the class of f is a square, or that it is none."""
    check_primitive(f)
    D = told_discriminant(f)
    signs = signs_of(D)
    g, m = told_by_steps(f)
    x, y = free_pair(g, 2 * D)
    v = told_value(g, x, y)
    for d in signs:
        if kronecker(d, v) == -1:
            (p, q), (r, s) = m
            return ("sign", p * x + q * y, r * x + s * y, d)
    told = class_root(f)
    p, q = composing_rows(told, told)
    return ("root", told, p, q, matrix_between(composition(p, q)[2], f))
