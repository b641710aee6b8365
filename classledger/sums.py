"""Class numbers told by sums over cycles and over traces."""

from math import gcd

from classledger.cycles import all_cycles, turns_of
from classledger.definite import hurwitz
from classledger.errors import Malformed, Refused
from classledger.genera import free_value
from classledger.primes import divisors_of
from classledger.signs import check_negative, is_fundamental
from classledger.whole import is_integer, kronecker, root

LARGEST_PRODUCT = 20000
LARGEST_TOLD = 20000


def turn_sum(D1, D2):
    """Return the sum of (D1 / v) T over the cycles of D1 D2, T the sum of the turns of a cycle."""
    check_negative(D1)
    check_negative(D2)
    D = D1 * D2
    if D > LARGEST_PRODUCT:
        raise Refused("large")
    if not is_fundamental(D1) or not is_fundamental(D2):
        raise Refused("fundamental")
    if gcd(D1, D2) != 1:
        raise Refused("divisor")
    total = 0
    for cycle in all_cycles(D):
        total += kronecker(D1, free_value(cycle[0], D)) * sum(turns_of(cycle[0]))
    return total


def _check_told(n):
    """Check an integer whose sums can be told."""
    if not is_integer(n) or n < 1:
        raise Malformed("no integer from 1 on")
    if n > LARGEST_TOLD:
        raise Refused("large")


def square_sum(n):
    """Return the sum of 12 H(4 n - t^2) over all integers t with t^2 at most 4 n."""
    _check_told(n)
    most = root(4 * n, 2)
    return hurwitz(4 * n) + 2 * sum([hurwitz(4 * n - t * t) for t in range(1, most + 1)])


def greater_sum(n):
    """Return 12 times the sum of the greater one of d and n / d over the divisors d of n."""
    _check_told(n)
    return 12 * sum([max(d, n // d) for d in divisors_of(n)])
