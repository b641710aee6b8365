"""Class numbers told by sums of residue signs."""

from classledger.definite import class_number
from classledger.errors import Malformed, Refused
from classledger.forms import check_discriminant, split_discriminant
from classledger.primes import divisors_of, factors
from classledger.units import least_unit, narrow_number
from classledger.whole import is_integer, kronecker

LARGEST = 10 ** 12
LARGEST_CONDUCTED = 1000000
LARGEST_SUMMED = 100000
LARGEST_VALUE = 1000000


def fundamental(D):
    """Return (D0, f) with D = D0 f^2 and a fundamental D0."""
    check_discriminant(D)
    if abs(D) > LARGEST:
        raise Refused("large")
    return split_discriminant(D)


def is_fundamental(D):
    """Return True if the discriminant is fundamental."""
    return fundamental(D)[1] == 1


def _units(D):
    """Return w(D) for a discriminant below 0."""
    return {-3: 6, -4: 4}.get(D, 2)


def check_negative(D):
    """Raise Malformed if the value is no discriminant below 0."""
    check_discriminant(D)
    if D > 0:
        raise Malformed("above 0")


def _check_summed(D):
    """Refuse a discriminant below 0 whose signs are too many, or that is not fundamental."""
    if D < -LARGEST_SUMMED:
        raise Refused("large")
    if not is_fundamental(D):
        raise Refused("fundamental")


def sign_sum(D):
    """Return the sum of n (D / n) over all n from 1 to -D - 1."""
    check_negative(D)
    _check_summed(D)
    return sum([n * kronecker(D, n) for n in range(1, -D)])


def number_by_signs(D):
    """Return the class number that the sum of signs tells."""
    total = sign_sum(D)
    return _units(D) * total // (2 * D)


def number_by_conductor(D):
    """Return the class number that the one of the fundamental discriminant tells."""
    check_discriminant(D)
    if abs(D) > LARGEST_CONDUCTED:
        raise Refused("large")
    D0, f = split_discriminant(D)
    number = f
    for l, _ in factors(f):
        number = number // l * (l - kronecker(D0, l))
    if D < 0:
        return class_number(D0) * number * 2 // (_units(D0) if f > 1 else 2)
    return narrow_number(D0) * number // _least_power(D0, f)


def _least_power(D, f):
    """Return the least k from 1 on for which f divides the second item of the power k of the unit."""
    # These items keep U_(k+1) = t U_k - U_(k-1), so they can be told modulo f.
    t, u = least_unit(D)
    before, now = 0, u % f
    k = 1
    while now:
        before, now = now, (t * now - before) % f
        k += 1
    return k


def pairs_by_signs(D, n):
    """Return how many pairs give the reduced forms of D the value n, told by the divisors of n."""
    check_negative(D)
    if not is_integer(n) or n < 1:
        raise Malformed("no value")
    if n > LARGEST_VALUE:
        raise Refused("large")
    _check_summed(D)
    return _units(D) * sum([kronecker(D, d) for d in divisors_of(n)])
