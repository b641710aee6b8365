"""Binary quadratic forms, their discriminants, and the matrices that move them."""

from math import gcd

from classledger.errors import Malformed, Refused
from classledger.primes import factors
from classledger.rows import is_row
from classledger.whole import is_integer, is_square, raised

# The items of a form are below it in amount: they have at most 60 digits.
ITEM_BOUND = 10 ** 60

UNIT_MATRIX = ((1, 0), (0, 1))


def is_discriminant(value):
    """Return True if the value is a discriminant."""
    return is_integer(value) and value % 4 in (0, 1) and not is_square(value)


def is_form(value):
    """Return True if the value is a form."""
    if not is_row(value, 3) or is_large(value):
        return False
    D = told_discriminant(value)
    return is_discriminant(D) and (D > 0 or value[0] > 0)


def is_matrix(value):
    """Return True if the value is a matrix."""
    if not isinstance(value, tuple) or len(value) != 2:
        return False
    if not is_row(value[0], 2) or not is_row(value[1], 2):
        return False
    (p, q), (r, s) = value
    return p * s - q * r == 1


def is_large(f):
    """Return True if an item has more than 60 digits."""
    return any([abs(item) >= ITEM_BOUND for item in f])


def check_form(f):
    """Raise Malformed if the value is no form."""
    if not is_form(f):
        raise Malformed("no form")


def check_matrix(m):
    """Raise Malformed if the value is no matrix."""
    if not is_matrix(m):
        raise Malformed("no matrix")


def check_discriminant(D):
    """Raise Malformed if the value is no discriminant."""
    if not is_discriminant(D):
        raise Malformed("no discriminant")


def check_items(f):
    """Refuse a form with an item of more than 60 digits."""
    if is_large(f):
        raise Refused("large")


def told_discriminant(f):
    """Return b^2 - 4 a c for three integers of any size."""
    a, b, c = f
    return b * b - 4 * a * c


def discriminant(f):
    """Return the discriminant of a form."""
    check_form(f)
    return told_discriminant(f)


def told_value(f, x, y):
    """Return the value for three integers of any size."""
    a, b, c = f
    return a * x * x + b * x * y + c * y * y


def value_at(f, x, y):
    """Return the value of a form at x, y."""
    check_form(f)
    if not is_integer(x) or not is_integer(y):
        raise Malformed("no integers")
    return told_value(f, x, y)


def told_content(f):
    """Return the greatest common divisor of three integers of any size."""
    a, b, c = f
    return gcd(gcd(a, b), c)


def content(f):
    """Return the content of a form."""
    check_form(f)
    return told_content(f)


def is_primitive(f):
    """Return True if the form is primitive."""
    return content(f) == 1


def told_moved(f, m):
    """Return three integers of any size moved by a matrix."""
    a, b, c = f
    (p, q), (r, s) = m
    middle = 2 * a * p * q + b * (p * s + q * r) + 2 * c * r * s
    return (told_value(f, p, r), middle, told_value(f, q, s))


def moved_form(f, m):
    """Return the form moved by a matrix."""
    check_form(f)
    check_matrix(m)
    moved = told_moved(f, m)
    check_items(moved)
    return moved


def matrix_product(m, n):
    """Return the product of two matrices."""
    check_matrix(m)
    check_matrix(n)
    (p, q), (r, s) = m
    (t, u), (v, w) = n
    return ((p * t + q * v, p * u + q * w), (r * t + s * v, r * u + s * w))


def inverse_matrix(m):
    """Return the inverse of a matrix."""
    check_matrix(m)
    (p, q), (r, s) = m
    return ((s, -q), (-r, p))


def told_principal(D):
    """Return the principal form of a discriminant, with items of any size."""
    return (1, D % 2, (D % 2 - D) // 4)


def principal_form(D):
    """Return the principal form of a discriminant."""
    check_discriminant(D)
    form = told_principal(D)
    check_items(form)
    return form


def split_discriminant(D):
    """Return (D0, f) with D = D0 f^2 and a fundamental D0."""
    f = 1
    for p, k in factors(abs(D)):
        f *= raised(p, k // 2)
    # What is left may be 2 or 3 modulo 4, and then needs a factor 4 back.
    if D // (f * f) % 4 > 1:
        f //= 2
    return D // (f * f), f
