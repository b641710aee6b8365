"""The trace formula: traces of Hecke operators told by class numbers."""

from math import comb

from classledger.definite import hurwitz
from classledger.errors import Malformed, Refused
from classledger.hecke import check_index_prime, from_traces
from classledger.primes import divisor_sum, divisors_of
from classledger.whole import is_integer, raised, root

LEAST_WEIGHT = 2
GREATEST_WEIGHT = 100
LARGEST_INDEX = 20000

# The polynomial of T_p needs the traces of T of p^d; it is refused if this is greater.
LARGEST_POWER = 20000


def _check_weight(k):
    """Raise Malformed if the value is no even integer from 2 to 100."""
    if not is_integer(k) or k % 2 or not LEAST_WEIGHT <= k <= GREATEST_WEIGHT:
        raise Malformed("no weight")


def _check_index(n):
    """Raise Malformed if the value is no integer from 1 to 20000."""
    if not is_integer(n) or not 1 <= n <= LARGEST_INDEX:
        raise Malformed("no index")


def told_number(k, t, n):
    """Return P_k(t, n) for k from 2 on."""
    before, now = 0, 1
    for _ in range(k - 2):
        before, now = now, t * now - n * before
    return now


def weight_number(k, t, n):
    """Return P_k(t, n)."""
    _check_weight(k)
    _check_index(n)
    if not is_integer(t):
        raise Malformed("no integer")
    return told_number(k, t, n)


def _terms(k, n):
    """Return the list of the triples (t, P_k(t, n), 12 H(4 n - t^2)), ascending in t."""
    most = root(4 * n, 2)
    terms = [(t, told_number(k, t, n), hurwitz(4 * n - t * t)) for t in range(most + 1)]
    return [(-t, number, h) for t, number, h in reversed(terms[1:])] + terms


def class_terms(k, n):
    """Return the tuple of the triples (t, P_k(t, n), 12 H(4 n - t^2)), ascending in t."""
    _check_weight(k)
    _check_index(n)
    return tuple(_terms(k, n))


def lesser_sum(k, n):
    """Return the sum of min(c, n / c)^(k - 1) over the divisors c of n."""
    return sum([raised(min(c, n // c), k - 1) for c in divisors_of(n)])


def _side(k, n):
    """Return C(k, n)."""
    return sum([number * h for _, number, h in _terms(k, n)]) + 12 * lesser_sum(k, n)


def class_side(k, n):
    """Return C(k, n)."""
    _check_weight(k)
    _check_index(n)
    return _side(k, n)


def _trace(k, n):
    """Return Tr(k, n), told by the class side."""
    if k == 2:
        return divisor_sum(n, 1) - _side(k, n) // 24
    return -_side(k, n) // 24


def trace_by_classes(k, n):
    """Return the trace of T_n on the cusp forms of the weight k, told by the class side."""
    _check_weight(k)
    _check_index(n)
    return _trace(k, n)


def dimension_by_classes(k):
    """Return the dimension of the cusp forms of the weight k, told by the class side."""
    _check_weight(k)
    return _trace(k, 1)


def _power_trace(traces, k, p, i):
    """Return the trace of the power i of T_p, out of those of T of the powers of p."""
    total = 0
    for j in range(i // 2 + 1):
        many = comb(i, j) - (comb(i, j - 1) if j else 0)
        total += many * raised(p, (k - 1) * j) * traces[i - 2 * j]
    return total


def characteristic_by_classes(k, p):
    """Return the row of the characteristic polynomial of T_p, told by class numbers."""
    _check_weight(k)
    check_index_prime(p)
    d = _trace(k, 1)
    if raised(p, d) > LARGEST_POWER:
        raise Refused("large")
    traces = [_trace(k, raised(p, i)) for i in range(d + 1)]
    return from_traces(tuple([_power_trace(traces, k, p, i) for i in range(1, d + 1)]))
