"""Hecke operators on series and on the forms of level 1."""

from classledger.errors import Malformed, Refused
from classledger.level import check_weight, cusp_dimension, delta, echelon
from classledger.primes import is_prime
from classledger.rows import is_row
from classledger.series import check_series
from classledger.whole import is_integer, raised

LARGEST_INDEX = 400
LARGEST_REACHED = 399
LARGEST_TAU = 399
MOST_POWERS = 20


def check_index(n):
    """Raise Malformed if the value is no integer from 1 to 400."""
    if not is_integer(n) or not 1 <= n <= LARGEST_INDEX:
        raise Malformed("no index")


def check_index_prime(p):
    """Raise Malformed if the value is no prime to 400."""
    check_index(p)
    if not is_prime(p):
        raise Malformed("no prime")


def _told_items(f, n, k, size):
    """Return the first items, as many as told, of T_n of a series."""
    parts = [(c, raised(c, k - 1)) for c in range(1, n + 1) if n % c == 0]
    items = []
    for m in range(size):
        items.append(sum([factor * f[m * n // (c * c)] for c, factor in parts if m % c == 0]))
    return tuple(items)


def operated(f, n, k):
    """Return T_n of a series, for the weight k."""
    check_series(f)
    check_index(n)
    check_weight(k)
    return _told_items(f, n, k, (len(f) - 1) // n + 1)


def _matrix(k, n):
    """Return the rows of the matrix of T_n, as far as the series are long enough."""
    d = cusp_dimension(k)
    if d * n > LARGEST_REACHED:
        raise Refused("large")
    forms = echelon(k, d * n + 1)
    return tuple([_told_items(form, n, k, d + 1)[1:] for form in forms[1:]])


def _diagonal_sum(rows):
    """Return the trace of a matrix."""
    return sum([row[at] for at, row in enumerate(rows)])


def _product(one, two):
    """Return the product of two square matrices of one size."""
    columns = list(zip(*two))
    return [[sum([a * b for a, b in zip(row, column)]) for column in columns] for row in one]


def _traces_of_powers(rows, most):
    """Return the tuple of the traces of the powers 1 to most of a matrix."""
    traces = []
    power = rows
    for i in range(most):
        if i:
            power = _product(power, rows)
        traces.append(_diagonal_sum(power))
    return tuple(traces)


def hecke_matrix(k, n):
    """Return the rows of the matrix of T_n on the cusp forms of the weight k."""
    check_weight(k)
    check_index(n)
    return _matrix(k, n)


def hecke_trace(k, n):
    """Return the trace of T_n on the cusp forms of the weight k."""
    check_weight(k)
    check_index(n)
    return _diagonal_sum(_matrix(k, n))


def power_traces(k, p, most):
    """Return the tuple of the traces of the powers 1 to most of the matrix of T_p."""
    check_weight(k)
    check_index_prime(p)
    if not is_integer(most) or not 1 <= most <= MOST_POWERS:
        raise Malformed("no number of powers")
    return _traces_of_powers(_matrix(k, p), most)


def characteristic(rows):
    """Return the row of the characteristic polynomial of a matrix."""
    return from_traces(_traces_of_powers(rows, len(rows)))


def from_traces(traces):
    """Return the row of the polynomial whose roots have these sums of powers, by Newton's way."""
    if not isinstance(traces, tuple) or not is_row(traces, len(traces)):
        raise Malformed("no traces")
    row = [1]
    for i in range(1, len(traces) + 1):
        total = sum([row[j] * traces[i - j - 1] for j in range(i)])
        if total % i:
            raise Refused("traces")
        row.append(-total // i)
    return tuple(row)


def tau(n):
    """Return the item of Delta at n."""
    if not is_integer(n) or not 1 <= n <= LARGEST_TAU:
        raise Malformed("no index")
    return delta(n + 1)[n]
