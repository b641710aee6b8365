"""Power series with integer items, as far as a length."""

from classledger.errors import Malformed
from classledger.rows import add, is_row, scaled
from classledger.whole import is_integer

LONGEST = 400


def _is_length(value):
    """Return True if the value is a length of series."""
    return is_integer(value) and 1 <= value <= LONGEST


def is_series(value):
    """Return True if the value is a series."""
    return isinstance(value, tuple) and _is_length(len(value)) and is_row(value, len(value))


def check_length(size):
    """Raise Malformed if the value is no length of series."""
    if not _is_length(size):
        raise Malformed("no length")


def check_series(f):
    """Raise Malformed if the value is no series."""
    if not is_series(f):
        raise Malformed("no series")


def _check_pair(f, g):
    """Raise Malformed if the values are no series of one length."""
    check_series(f)
    check_series(g)
    if len(f) != len(g):
        raise Malformed("unlike lengths")


def plus(f, g):
    """Return the sum of two series."""
    _check_pair(f, g)
    return add(f, g)


def multiple(f, c):
    """Return the multiple of a series by an integer."""
    check_series(f)
    return scaled(f, c)


def product_of(f, g):
    """Return the product of two series of one length."""
    size = len(f)
    items = [0] * size
    for at, a in enumerate(f):
        if a:
            items[at:] = [item + a * b for item, b in zip(items[at:], g)]
    return tuple(items)


def times(f, g):
    """Return the product of two series."""
    _check_pair(f, g)
    return product_of(f, g)


def unit_series(size):
    """Return the series (1, 0, .., 0)."""
    return (1,) + (0,) * (size - 1)


def power_of(f, n):
    """Return the power of a series, n from 0 on."""
    result = unit_series(len(f))
    while n:
        if n & 1:
            result = product_of(result, f)
        n >>= 1
        if n:
            f = product_of(f, f)
    return result


def power(f, n):
    """Return the power of a series, n from 0 on."""
    check_series(f)
    return power_of(f, n)


def shifted(f, n):
    """Return the product of a series with q^n, of the same length."""
    check_series(f)
    size = len(f)
    n = min(n, size)
    return (0,) * n + f[:size - n]


def euler_product(size, n):
    """Return the power n of the product of all 1 - q^m, m from 1 on."""
    # Euler: the items are 0 but for the signs at m (3 m - 1)/2, m any integer.
    items = [0] * size
    for m in range(-size, size + 1):
        at = m * (3 * m - 1) // 2
        if at < size:
            items[at] = -1 if m & 1 else 1
    return power_of(tuple(items), n)
