"""Class numbers told by products of roots of one and by half factorials."""

from classledger.definite import class_number
from classledger.errors import Malformed, Refused
from classledger.forms import check_discriminant
from classledger.primes import is_prime, root_of_order
from classledger.signs import is_fundamental
from classledger.units import least_unit, narrow_number
from classledger.whole import inverse, is_integer, kronecker, power

LARGEST = 2000
LARGEST_MODULUS = 10000000
LARGEST_HALVED = 1000000


def _check_kinds(D, l):
    """Raise Malformed if D is no discriminant above 0, or l no odd prime to the bound."""
    check_discriminant(D)
    if D < 0:
        raise Malformed("below 0")
    if not is_integer(l) or not 3 <= l <= LARGEST_MODULUS or not is_prime(l):
        raise Malformed("no prime")


def _check_taken(D, l):
    """Refuse a discriminant or a prime for which point 7.4 tells nothing."""
    if D > LARGEST:
        raise Refused("large")
    if not is_fundamental(D):
        raise Refused("fundamental")
    if l % D != 1:
        raise Refused("root")


def product_modulo(D, l):
    """Return the rests of the sum of (D / a) z^a and of the product of (1 - z^a)^(-(D / a))."""
    _check_kinds(D, l)
    _check_taken(D, l)
    z = root_of_order(D, l)
    r = 0
    above = below = x = 1
    for a in range(1, D):
        x = x * z % l
        sign = kronecker(D, a)
        r += sign * x
        if sign == 1:
            below = below * (1 - x) % l
        if sign == -1:
            above = above * (1 - x) % l
    return r % l, above * inverse(below, l) % l


def unit_modulo(D, l, r):
    """Return the rest of ((t + u r)/2)^h with the least unit and the narrow class number of D."""
    _check_kinds(D, l)
    if not is_integer(r):
        raise Malformed("no integer")
    _check_taken(D, l)
    t, u = least_unit(D)
    return power((t + u * r) * inverse(2, l), narrow_number(D), l)


def half_factorial(p):
    """Return the product of the integers from 1 to (p - 1)/2 modulo p, 1 or -1, by the class number."""
    if not is_integer(p) or not 3 < p <= LARGEST_HALVED or p % 4 != 3 or not is_prime(p):
        raise Malformed("no such prime")
    return 1 if class_number(-p) % 4 == 3 else -1
