"""Forms of level 1: Eisenstein series, Delta, bases and coordinates."""

from classledger.errors import Malformed, Refused
from classledger.primes import divisor_sum
from classledger.rows import add, is_row, scaled
from classledger.series import check_length, check_series, power_of, product_of, unit_series
from classledger.whole import is_integer

LEAST_WEIGHT = 4
GREATEST_WEIGHT = 100

# The integers c of the Eisenstein series.
EISENSTEIN = {4: 240, 6: -504, 8: 480, 10: -264, 14: -24}


def check_weight(k):
    """Raise Malformed if the value is no weight."""
    if not is_integer(k) or k % 2 or not LEAST_WEIGHT <= k <= GREATEST_WEIGHT:
        raise Malformed("no weight")


def cusp_dimension(k):
    """Return the dimension d of the cusp forms of a weight."""
    return k // 12 - (1 if k % 12 == 2 else 0)


def _told_eisenstein(k, size):
    """Return the Eisenstein series of one of the five weights."""
    c = EISENSTEIN[k]
    return (1,) + tuple([c * divisor_sum(n, k - 1) for n in range(1, size)])


def eisenstein(k, size):
    """Return the Eisenstein series of the weight k."""
    check_weight(k)
    check_length(size)
    if k not in EISENSTEIN:
        raise Refused("weight")
    return _told_eisenstein(k, size)


def _delta(cube, six):
    """Return Delta, out of the power 3 of E_4, and E_6."""
    return tuple([(a - b) // 1728 for a, b in zip(cube, product_of(six, six))])


def delta(size):
    """Return the series Delta."""
    check_length(size)
    return _delta(power_of(_told_eisenstein(4, size), 3), _told_eisenstein(6, size))


def dimension(k):
    """Return the dimension of the forms of the weight k."""
    check_weight(k)
    return cusp_dimension(k) + 1


def _told_generators(k, size):
    """Return the list of the series g_0, .., g_d."""
    d = cusp_dimension(k)
    four, six = _told_eisenstein(4, size), _told_eisenstein(6, size)
    cube = power_of(four, 3)
    step = _delta(cube, six)
    # From g_j on to the one before a factor Delta becomes a factor E_4^3.
    left = power_of(four, (k - 12 * d - k % 4 // 2 * 6) // 4)
    if k % 4 == 2:
        left = product_of(left, six)
    firsts = [left]
    lasts = [unit_series(size)]
    for _ in range(d):
        firsts.append(product_of(firsts[-1], cube))
        lasts.append(product_of(lasts[-1], step))
    return [product_of(first, last) for first, last in zip(reversed(firsts), lasts)]


def generators(k, size):
    """Return the tuple of the series g_0, .., g_d."""
    check_weight(k)
    check_length(size)
    return tuple(_told_generators(k, size))


def echelon(k, size):
    """Return the echelon basis (f_0, .., f_d)."""
    check_weight(k)
    check_length(size)
    d = cusp_dimension(k)
    # The first d + 1 items are needed, even if the series are shorter.
    forms = _told_generators(k, max(size, d + 1))
    for j in reversed(range(d)):
        for i in range(j + 1, d + 1):
            forms[j] = add(forms[j], scaled(forms[i], -forms[j][i]))
    return tuple([form[:size] for form in forms])


def parted(f, k):
    """Return the row of the multiples that the first items of a series tell, and what they leave of it."""
    check_weight(k)
    check_series(f)
    d = cusp_dimension(k)
    if len(f) <= d:
        raise Refused("short")
    row = []
    for j, g in enumerate(_told_generators(k, len(f))):
        row.append(f[j])
        f = add(f, scaled(g, -f[j]))
    return tuple(row), f


def coordinates(f, k):
    """Return the coordinates of a series, or None if it does not go with the weight k."""
    row, left = parted(f, k)
    return None if any(left) else row


def first_unlike(f, k):
    """Return the first index at which a series is not what its first items tell, or None."""
    _, left = parted(f, k)
    for at, item in enumerate(left):
        if item:
            return at
    return None


def form_of(row, k, size):
    """Return the sum of the multiples of g_0, .., g_d by the integers of a row."""
    check_weight(k)
    check_length(size)
    if not is_row(row, cusp_dimension(k) + 1):
        raise Malformed("no row")
    form = (0,) * size
    for c, g in zip(row, _told_generators(k, size)):
        form = add(form, scaled(g, c))
    return form
