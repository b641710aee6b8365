"""Members of the field of p^2 members, and the polynomials that join invariants."""

from classledger.curves import is_curve_prime
from classledger.errors import Malformed
from classledger.rows import is_row
from classledger.squares import nonsquare, roots_modulo_prime
from classledger.whole import inverse, is_integer

LARGEST = 500

# The coefficients of F_2 and F_3, as a polynomial in x from the highest power down to 1:
# for each of them its own coefficients as a polynomial in y, in the same order.
JOINING_TWO = (
    (1,),
    (-1, 1488, -162000),
    (1488, 40773375, 8748000000),
    (1, -162000, 8748000000, -157464000000000))
JOINING_THREE = (
    (1,),
    (-1, 2232, -1069956, 36864000),
    (2232, 2587918086, 8900222976000, 452984832000000),
    (-1069956, 8900222976000, -770845966336000000, 1855425871872000000000),
    (1, 36864000, 452984832000000, 1855425871872000000000, 0))


def check_prime(p):
    """Raise Malformed if the value is no prime of chapter 10."""
    if not is_curve_prime(p) or p > LARGEST:
        raise Malformed("no prime")


def check_joining(l):
    """Raise Malformed if the value is not 2 or 3."""
    if not is_integer(l) or l not in (2, 3):
        raise Malformed("not 2 or 3")


def _is_pair(p, value):
    """Return True if the value is a member for what is known to be a prime."""
    return is_row(value, 2) and 0 <= value[0] < p and 0 <= value[1] < p


def _check_members(p, values):
    """Raise Malformed if p is no prime of chapter 10, or one of the values no member."""
    check_prime(p)
    if not all([_is_pair(p, u) for u in values]):
        raise Malformed("no member")


def nonsquare_of(p):
    """Return the least integer from 2 on that is no square modulo p."""
    check_prime(p)
    return nonsquare(p)


def is_member(p, value):
    """Return True if the value is a member."""
    check_prime(p)
    return _is_pair(p, value)


def sum_in(p, u, v):
    """Return the sum of two pairs modulo p."""
    return ((u[0] + v[0]) % p, (u[1] + v[1]) % p)


def times_in(p, d, u, v):
    """Return the product of two pairs, d the square of (0, 1)."""
    (x, y), (z, w) = u, v
    return ((x * z + d * y * w) % p, (x * w + y * z) % p)


def multiple_in(p, c, u):
    """Return the product of an integer and a pair modulo p."""
    return (c * u[0] % p, c * u[1] % p)


def member_sum(p, u, v):
    """Return the sum of two members."""
    _check_members(p, (u, v))
    return sum_in(p, u, v)


def member_product(p, u, v):
    """Return the product of two members."""
    _check_members(p, (u, v))
    return times_in(p, nonsquare(p), u, v)


def member_inverse(p, u):
    """Return the inverse of a member, None for (0, 0)."""
    _check_members(p, (u,))
    x, y = u
    k = inverse(x * x - nonsquare(p) * y * y, p)
    return None if k is None else (x * k % p, -y * k % p)


def value_in(p, d, polynomial, u):
    """Return the value at a member of a polynomial of members, from the highest power down."""
    value = (0, 0)
    for c in polynomial:
        value = sum_in(p, times_in(p, d, value, u), c)
    return value


def joining_polynomial(p, d, l, v):
    """Return F_l(x, v) as a polynomial of members in x, from the highest power down."""
    rows = JOINING_TWO if l == 2 else JOINING_THREE
    return [value_in(p, d, [(c % p, 0) for c in row], v) for row in rows]


def joining_value(p, l, u, v):
    """Return F_l(u, v) for two members."""
    check_joining(l)
    _check_members(p, (u, v))
    d = nonsquare(p)
    return value_in(p, d, joining_polynomial(p, d, l, v), u)


def divided(p, d, polynomial, u):
    """Return the quotient of a polynomial of members by x - u, and its value at u."""
    quotient = []
    value = (0, 0)
    for c in polynomial:
        value = sum_in(p, times_in(p, d, value, u), c)
        quotient.append(value)
    return quotient[:-1], value


def member_root(p, d, u):
    """Return a square root of a member that has one, as point 10.4 tells it."""
    x, y = u
    if y == 0:
        roots = roots_modulo_prime(x, p)
        if roots:
            return (roots[0], 0)
        return (0, roots_modulo_prime(x * inverse(d, p), p)[0])
    half = inverse(2, p)
    n = roots_modulo_prime(x * x - d * y * y, p)[0]
    roots = roots_modulo_prime((x + n) * half, p) or roots_modulo_prime((x - n) * half, p)
    s = roots[0]
    return (s, y * inverse(2 * s, p) % p)
