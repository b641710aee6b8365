"""Composition of forms in Gauss's way."""

from classledger.errors import Malformed
from classledger.forms import discriminant, is_primitive
from classledger.rows import is_row, span


def _composed(p, q):
    """Return the triple (f, g, F) that two rows of four integers tell."""
    p0, p1, p2, p3 = p
    q0, q1, q2, q3 = q
    m03 = p0 * q3 - p3 * q0
    m12 = p1 * q2 - p2 * q1
    f = (p0 * q1 - p1 * q0, m03 - m12, p2 * q3 - p3 * q2)
    g = (p0 * q2 - p2 * q0, m03 + m12, p1 * q3 - p3 * q1)
    middle = p0 * q3 + q0 * p3 - p1 * q2 - q1 * p2
    return f, g, (q1 * q2 - q0 * q3, middle, p1 * p2 - p0 * p3)


def composition(p, q):
    """Return the triple (f, g, F) of two rows: F is the composition of f and g."""
    if not is_row(p, 4) or not is_row(q, 4):
        raise Malformed("no row")
    return _composed(p, q)


def check_pair(f, g):
    """Raise Malformed if the values are no primitive forms of one discriminant."""
    if not is_primitive(f) or not is_primitive(g):
        raise Malformed("not primitive")
    if discriminant(f) != discriminant(g):
        raise Malformed("unlike discriminants")


def composing_rows(f, g):
    """Return a pair of rows that composes two primitive forms of one discriminant."""
    check_pair(f, g)
    return _rows_of(f, g)


def composed_form(f, g):
    """Return a composition of two primitive forms of one discriminant, for items of any size."""
    p, q = _rows_of(f, g)
    return _composed(p, q)[2]


def _rows_of(f, g):
    """Return the rows of composing_rows, for items of any size."""
    a, b, c = f
    d, e, k = g
    R = (b + e) // 2
    S = (e - b) // 2
    p, q = span(((0, a, d, R), (-a, 0, S, k), (-d, -S, 0, c), (-R, -k, -c, 0)), 4)
    # The rows of the lattice tell the six numbers only up to the sign.
    if _composed(p, q)[:2] != (f, g):
        p, q = q, p
    return p, q
