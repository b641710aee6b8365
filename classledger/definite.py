"""Definite forms: reduction, class numbers by counting, self-maps, values."""

from classledger.errors import Malformed, Refused
from classledger.forms import (
    UNIT_MATRIX, check_discriminant, check_form, check_items, told_content, told_discriminant)
from classledger.whole import is_integer, root

# Counting of forms is refused for discriminants below the negative of it.
LARGEST = 1000000


def check_definite(f):
    """Raise Malformed if the value is no definite form."""
    check_form(f)
    if told_discriminant(f) > 0:
        raise Malformed("indefinite")


def _check_counted(D):
    """Check a discriminant whose reduced forms are to be counted."""
    check_discriminant(D)
    if D > 0:
        raise Malformed("indefinite")
    if D < -LARGEST:
        raise Refused("large")


def told_reduced(f):
    """Return True if a definite form with items of any size is reduced."""
    a, b, c = f
    if abs(b) > a or a > c:
        return False
    return b >= 0 or (abs(b) < a < c)


def is_reduced(f):
    """Return True if the definite form is reduced."""
    check_definite(f)
    return told_reduced(f)


def reduction(f):
    """Return the reduced form and a matrix that leads to it, for items of any size."""
    a, b, c = f
    (p, q), (r, s) = UNIT_MATRIX
    while True:
        k = (a - b) // (2 * a)
        c += b * k + a * k * k
        b += 2 * a * k
        q += p * k
        s += r * k
        if a < c or (a == c and b >= 0):
            return (a, b, c), ((p, q), (r, s))
        a, b, c = c, -b, a
        p, q, r, s = q, -p, s, -r


def reduced_form(f):
    """Return the reduced form that is equivalent to f, and a matrix that moves f to it."""
    check_definite(f)
    g, m = reduction(f)
    check_items(g)
    return g, m


def _counted_forms(D):
    """Return the ascending list of all reduced forms of a discriminant below 0."""
    found = []
    for b in range(D % 2, root(-D // 3, 2) + 1, 2):
        product = (b * b - D) // 4
        divisors = [d for d in range(max(b, 1), root(product, 2) + 1) if product % d == 0]
        for a in divisors:
            c = product // a
            found.append((a, b, c))
            if 0 < b < a < c:
                found.append((a, -b, c))
    return sorted(found)


def reduced_forms(D):
    """Return the ascending tuple of all reduced forms of D, primitive or not."""
    _check_counted(D)
    return tuple(_counted_forms(D))


def class_number(D):
    """Return the number of the primitive reduced forms of D."""
    _check_counted(D)
    return len([f for f in _counted_forms(D) if told_content(f) == 1])


def self_maps(f):
    """Return the ascending tuple of the matrices that move a definite form to itself."""
    check_definite(f)
    k = told_content(f)
    a, b, c = [item // k for item in f]
    maps = []
    for t, u in _unit_pairs(told_discriminant((a, b, c))):
        maps.append((((t - b * u) // 2, -c * u), (a * u, (t + b * u) // 2)))
    return tuple(sorted(maps))


def _unit_pairs(D):
    """Return the pairs (t, u) with t^2 - D u^2 = 4 for a discriminant below 0."""
    pairs = [(2, 0), (-2, 0)]
    if D == -4:
        pairs.extend([(0, 1), (0, -1)])
    if D == -3:
        pairs.extend([(1, 1), (1, -1), (-1, 1), (-1, -1)])
    return pairs


def hurwitz(n):
    """Return 12 H(n)."""
    if not is_integer(n):
        raise Malformed("no integer")
    if n > LARGEST:
        raise Refused("large")
    if n == 0:
        return -1
    if n < 0 or n % 4 in (1, 2):
        return 0
    return sum([_weight(f) for f in _counted_forms(-n)])


def _weight(f):
    """Return 24 divided by the number of self-maps of a reduced form."""
    a, b, c = f
    if a == b == c:
        return 4
    if a == c and b == 0:
        return 6
    return 12


def value_pairs(f, n):
    """Return the ascending tuple of the pairs at which a reduced form has the value n."""
    check_definite(f)
    if not is_integer(n) or n < 1:
        raise Malformed("no value")
    if n > LARGEST:
        raise Refused("large")
    if not is_reduced(f):
        raise Refused("reduced")
    a, b, _ = f
    D = told_discriminant(f)
    most = root(4 * a * n // -D, 2)
    found = set()
    for y in range(-most, most + 1):
        square = 4 * a * n + D * y * y
        z = root(square, 2)
        if z * z != square:
            continue
        for double in (z - b * y, -z - b * y):
            if double % (2 * a) == 0:
                found.add((double // (2 * a), y))
    return tuple(sorted(found))
