"""Indefinite forms: steps, turns and cycles."""

from classledger.errors import Malformed, Refused
from classledger.forms import (
    UNIT_MATRIX, check_discriminant, check_form, check_items, told_content, told_discriminant)
from classledger.whole import root

# Cycles are refused for discriminants above it.
LARGEST = 1000000


def check_indefinite(f):
    """Raise Malformed if the value is no indefinite form."""
    check_form(f)
    if told_discriminant(f) < 0:
        raise Malformed("definite")


def check_cyclic(D):
    """Check a discriminant above 0 whose cycles are to be walked."""
    check_discriminant(D)
    if D < 0:
        raise Malformed("definite")
    check_walked(D)


def check_walked(D):
    """Refuse a discriminant whose cycles are too long to be walked."""
    if D > LARGEST:
        raise Refused("large")


def _root_of(f):
    """Return the root of the discriminant of three integers."""
    return root(told_discriminant(f), 2)


def fits(f, s):
    """Return True if a form whose discriminant has the root s is on a cycle."""
    a, b, _ = f
    return 1 <= b <= s and 2 * abs(a) + b > s and 2 * abs(a) - b <= s


def is_on_cycle(f):
    """Return True if the indefinite form is on a cycle."""
    check_indefinite(f)
    return fits(f, _root_of(f))


def step_from(f, s):
    """Return the form that the step leads to and the turn, for items of any size."""
    a, b, c = f
    size = abs(c)
    top = max(size, s)
    new = top - (top + b) % (2 * size)
    t = (b + new) // (2 * c)
    return (c, new, a - b * t + c * t * t), t


def with_turn(m, t):
    """Return the product of a matrix and the matrix of a step with the turn t."""
    (p, q), (r, s) = m
    return ((q, q * t - p), (s, s * t - r))


def next_form(f):
    """Return the form that the step leads to, and the turn."""
    check_indefinite(f)
    g, t = step_from(f, _root_of(f))
    check_items(g)
    return g, t


def lead(f):
    """Return the first form on a cycle from f on and the matrix to it, for items of any size."""
    s = _root_of(f)
    m = UNIT_MATRIX
    while not fits(f, s):
        f, t = step_from(f, s)
        m = with_turn(m, t)
    return f, m


def lead_in(f):
    """Return the first form on a cycle from f on, and the product of the matrices of the steps."""
    check_indefinite(f)
    g, m = lead(f)
    check_items(g)
    return g, m


def walk(f):
    """Return the lists of the forms and of the turns of the cycle of a form that is on one."""
    s = _root_of(f)
    g, t = step_from(f, s)
    forms, turns = [f], [t]
    while g != f:
        forms.append(g)
        g, t = step_from(g, s)
        turns.append(t)
    return forms, turns


def _check_walk(f):
    """Check a form whose cycle is to be walked."""
    check_indefinite(f)
    check_walked(told_discriminant(f))
    if not is_on_cycle(f):
        raise Refused("cycle")


def cycle_of(f):
    """Return the tuple of the forms of the cycle of f, from f on."""
    _check_walk(f)
    forms, _ = walk(f)
    return tuple(forms)


def turns_of(f):
    """Return the tuple of the turns of the cycle of f, from f on."""
    _check_walk(f)
    _, turns = walk(f)
    return tuple(turns)


def all_cycles(D):
    """Return the ascending tuple of the cycles of all primitive forms of D."""
    check_cyclic(D)
    met = set()
    cycles = []
    for f in _primitive_forms(D):
        if f in met:
            continue
        forms, _ = walk(f)
        for g in forms:
            met.add(g)
        cycles.append(tuple(forms))
    return tuple(cycles)


def _primitive_forms(D):
    """Return the ascending list of the primitive forms of D that are on a cycle."""
    s = root(D, 2)
    found = []
    for b in range(2 - D % 2, s + 1, 2):
        product = (D - b * b) // 4
        divisors = [d for d in range((s - b) // 2 + 1, (s + b) // 2 + 1) if product % d == 0]
        for a in divisors:
            c = product // a
            if told_content((a, b, c)) == 1:
                found.append((a, b, -c))
                found.append((-a, b, c))
    return sorted(found)
