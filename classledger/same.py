"""Equivalence of forms of either sign of the discriminant."""

from classledger.cycles import check_walked, lead, walk, with_turn
from classledger.definite import reduction
from classledger.forms import check_form, check_items, inverse_matrix, matrix_product, told_discriminant


def told_by_steps(f):
    """Return the told form and a matrix that leads to it, for items of any size."""
    if told_discriminant(f) < 0:
        return reduction(f)
    g, m = lead(f)
    forms, turns = walk(g)
    least = min(forms)
    for t in turns[:forms.index(least)]:
        m = with_turn(m, t)
    return least, m


def told_form(f):
    """Return the told form of f, and a matrix that moves f to it."""
    check_form(f)
    check_walked(told_discriminant(f))
    g, m = told_by_steps(f)
    check_items(g)
    return g, m


def equivalence(f, g):
    """Return a matrix that moves f to g, or None."""
    check_form(f)
    check_form(g)
    check_walked(told_discriminant(f))
    check_walked(told_discriminant(g))
    if told_discriminant(f) != told_discriminant(g):
        return None
    return matrix_between(f, g)


def matrix_between(f, g):
    """Return a matrix that leads f to g, or None, for items of any size and one discriminant."""
    one, m = told_by_steps(f)
    two, n = told_by_steps(g)
    if one != two:
        return None
    return matrix_product(m, inverse_matrix(n))
