"""Signs of discriminants, genera of forms, and roots of classes."""

from math import gcd

from classledger.classes import check_listed, check_primitive, class_list, class_names, named_product, near_form
from classledger.forms import check_discriminant, told_discriminant, told_value
from classledger.primes import factors
from classledger.whole import kronecker

# The signs that belong to the prime 2, for D = 4 m, told by m modulo 8.
EVEN_SIGNS = ((-4, 8), (), (8,), (-4,), (-4,), (), (-8,), (-4,))


def told_signs(D):
    """Return the ascending tuple of the signs of a discriminant."""
    found = [l if l % 4 == 1 else -l for l, _ in factors(abs(D)) if l > 2]
    if D % 4 == 0:
        found.extend(EVEN_SIGNS[D // 4 % 8])
    return tuple(sorted(found))


def signs_of(D):
    """Return the tuple of the signs of D."""
    check_discriminant(D)
    check_listed(D)
    return told_signs(D)


def free_pair(f, n):
    """Return a pair at which a form, reduced or on a cycle, has a value above 0 without common divisor with n."""
    size = 1
    while True:
        for x in range(size + 1):
            for y in range(-size, size + 1):
                v = told_value(f, x, y)
                if v > 0 and gcd(v, n) == 1:
                    return x, y
        size += 1


def free_value(f, n):
    """Return the value at the pair of free_pair."""
    x, y = free_pair(f, n)
    return told_value(f, x, y)


def _genus(f):
    """Return the genus of a form that is reduced or on a cycle."""
    D = told_discriminant(f)
    v = free_value(f, 2 * D)
    return tuple([kronecker(d, v) for d in told_signs(D)])


def genus_of(f):
    """Return the genus of a primitive form."""
    check_primitive(f)
    check_listed(told_discriminant(f))
    return _genus(near_form(f))


def all_genera(D):
    """Return the ascending tuple of the pairs of a genus and the tuple of the told forms of its classes."""
    genera = {}
    for f in class_list(D):
        genera.setdefault(_genus(f), []).append(f)
    return tuple([(genus, tuple(genera[genus])) for genus in sorted(genera)])


def class_root(f):
    """Return the told form of a class whose square is the class of f, or None."""
    check_primitive(f)
    D = told_discriminant(f)
    check_listed(D)
    names = class_names(D)
    square = names[near_form(f)]
    for g in class_list(D):
        if named_product(names, g, g) == square:
            return g
    return None
