"""Units of discriminants above 0, and the class numbers of cycles."""

from classledger.cycles import all_cycles, check_cyclic, lead, walk, with_turn
from classledger.errors import Malformed, Refused
from classledger.forms import UNIT_MATRIX, principal_form
from classledger.whole import is_integer, root

MOST_POWER = 50


def _principal_walk(D):
    """Return the forms and the turns of the cycle that the principal form leads to."""
    f, _ = lead(principal_form(D))
    return walk(f)


def least_unit(D):
    """Return the least pair t, u from 1 on with t^2 - D u^2 = 4."""
    check_cyclic(D)
    forms, turns = _principal_walk(D)
    m = UNIT_MATRIX
    for t in turns:
        m = with_turn(m, t)
    (p, _), (r, s) = m
    return abs(p + s), abs(r // forms[0][0])


def _has_minus_unit(D):
    """Return True if a form with the first item -1 is on the principal cycle."""
    forms, _ = _principal_walk(D)
    return -1 in [a for a, _, _ in forms]


def minus_unit(D):
    """Return the least pair t, u from 1 on with t^2 - D u^2 = -4, or None."""
    check_cyclic(D)
    if not _has_minus_unit(D):
        return None
    # The least unit is ((t^2 + D u^2)/2, t u), and its first item is t^2 + 2.
    first, second = least_unit(D)
    t = root(first - 2, 2)
    return t, second // t


def unit_power(D, k):
    """Return the pair of a power of the least unit."""
    if not is_integer(k) or k < 0:
        raise Malformed("no exponent")
    check_cyclic(D)
    if k > MOST_POWER:
        raise Refused("large")
    t, u = least_unit(D)
    first, second = 2, 0
    for _ in range(k):
        first, second = (t * first + D * u * second) // 2, (t * second + u * first) // 2
    return first, second


def narrow_number(D):
    """Return the number of the classes of D."""
    return len(all_cycles(D))


def wide_number(D):
    """Return the number of the classes of D, with (a, b, c) and (-a, b, -c) as one."""
    check_cyclic(D)
    if _has_minus_unit(D):
        return narrow_number(D)
    return narrow_number(D) // 2
