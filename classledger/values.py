"""Values of forms at pairs without common divisor."""

from classledger.cycles import check_walked
from classledger.errors import Malformed, Refused
from classledger.forms import check_discriminant, check_form, told_discriminant
from classledger.same import matrix_between
from classledger.whole import is_integer

LARGEST = 10000


def _check_value(D, n):
    """Check an integer that is to be a value of forms of D."""
    if not is_integer(n) or n == 0 or (n < 0 and D < 0):
        raise Malformed("no value")
    if abs(n) > LARGEST:
        raise Refused("large")


def _roots(D, n):
    """Return the ascending list of the roots of n."""
    modulus = 4 * abs(n)
    square = D % modulus
    return [b for b in range(D % 2, 2 * abs(n), 2) if (b * b - square) % modulus == 0]


def value_roots(D, n):
    """Return the ascending tuple of the roots of n."""
    check_discriminant(D)
    _check_value(D, n)
    return tuple(_roots(D, n))


def told_values(f, n):
    """Return the tuple of the triples of a told root of n and a pair that belongs to it."""
    check_form(f)
    D = told_discriminant(f)
    _check_value(D, n)
    check_walked(D)
    found = []
    for b in _roots(D, n):
        m = matrix_between(f, (n, b, (b * b - D) // (4 * n)))
        if m is not None:
            (x, _), (y, _) = m
            found.append((b, x, y))
    return tuple(found)
