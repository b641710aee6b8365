"""Lattices of codes, and even lattices given by their tables."""

from math import isqrt

from classledger.codes import all_words, check_code, is_doubly_even, is_self_dual, weights
from classledger.errors import Malformed, Refused
from classledger.rows import add, determinant, dot, is_row, moved, scaled
from classledger.series import check_length, power_of, product_of, unit_series
from classledger.whole import is_integer

LARGEST_TABLE = 8
LARGEST_ITEM = 10 ** 6
LARGEST_NORM = 40
LARGEST_SIZE = 21
MOST_ROWS = 20000

# The pairs of neighbours of the table E8.
NEIGHBOURS = ((0, 1), (1, 2), (2, 3), (3, 4), (4, 5), (5, 6), (2, 7))


def _check_even(code, n):
    """Check a code that is to be doubly even and self-dual."""
    check_code(code, n)
    if not is_doubly_even(code, n) or not is_self_dual(code, n):
        raise Refused("even")


def _even_items(size):
    """Return the series with 1 at 0, 2 at each square from 1 on and 0 elsewhere."""
    items = [0] * size
    for m in range(isqrt(size - 1) + 1):
        items[m * m] = 2 if m else 1
    return tuple(items)


def _odd_items(size):
    """Return 16 q times the power 4 of the series with 1 at each m (m + 1) and 0 elsewhere."""
    items = [0] * size
    for m in range(isqrt(size) + 1):
        if m * (m + 1) < size:
            items[m * (m + 1)] = 1
    return (0,) + scaled(power_of(tuple(items), 4), 16)[:-1]


def theta_of_code(code, n, size):
    """Return the theta series of a doubly even self-dual code."""
    check_code(code, n)
    check_length(size)
    _check_even(code, n)
    counts = weights(code, n)
    four, b = power_of(_even_items(size), 4), _odd_items(size)
    top = unit_series(size)
    total = scaled(top, counts[0])
    for w in range(4, n + 1, 4):
        top = product_of(top, b)
        total = add(product_of(total, four), scaled(top, counts[w]))
    return total


def _row_at(places, items, n):
    """Return the row of the length n with the items at the places and 0 elsewhere."""
    told = dict(zip(places, items))
    return tuple([told.get(at, 0) for at in range(n)])


def _fours(code, n):
    """Return the list of the tuples of the four places of the ones of the words of the weight 4."""
    fours = [word for word in all_words(code, n) if sum(word) == 4]
    return [tuple([at for at in range(n) if word[at]]) for word in fours]


def roots_of_code(code, n):
    """Return the ascending tuple of the rows with the square 4 of a doubly even self-dual code."""
    _check_even(code, n)
    roots = [_row_at((at,), (item,), n) for at in range(n) for item in (2, -2)]
    signs = [(a, b, c, d) for a in (1, -1) for b in (1, -1) for c in (1, -1) for d in (1, -1)]
    for places in _fours(code, n):
        roots.extend([_row_at(places, items, n) for items in signs])
    return tuple(sorted(roots))


def parts_of_roots(code, n):
    """Return the descending tuple of the numbers of the roots in each part."""
    _check_even(code, n)
    # A row with 2 at a place is joined to each root that is not 0 there, and joined roots share a place.
    # So the parts of the roots are those of the places, joined by the words of the weight 4.
    fours = _fours(code, n)
    names = list(range(n))
    for places in fours:
        met = [names[at] for at in places]
        names = [min(met) if name in met else name for name in names]
    counts = [0] * n
    for name in names:
        counts[name] += 2
    for places in fours:
        counts[names[places[0]]] += 16
    return tuple(sorted([count for count in counts if count], reverse=True))


def is_table(value):
    """Return True if the value is a table of an even lattice."""
    if not isinstance(value, tuple) or not 1 <= len(value) <= LARGEST_TABLE:
        return False
    n = len(value)
    if not all([is_row(row, n) for row in value]):
        return False
    for i in range(n):
        if value[i][i] % 2 or any([abs(value[i][j]) > LARGEST_ITEM or value[i][j] != value[j][i] for j in range(n)]):
            return False
    # If all these determinants are above 0, so are all items on the diagonal.
    return all([determinant([row[:k] for row in value[:k]]) > 0 for k in range(1, n + 1)])


def norm(table, x):
    """Return the norm of a row."""
    return dot(moved(x, table, len(table)), x)


def _made_table(table, basis):
    """Return the table of the rows of a basis, told in the first one."""
    n = len(table)
    images = [moved(row, table, n) for row in basis]
    return [[dot(image, row) for row in basis] for image in images]


def _told_sums(table):
    """Return the rows of the integers s of the sums of squares: the determinants stand at equal indexes."""
    sums = []
    for i, row in enumerate(table):
        told = []
        for j in range(i + 1):
            item = row[j]
            before = 1
            above = told if i == j else sums[j]
            for k in range(j):
                item = (sums[k][k] * item - told[k] * above[k]) // before
                before = sums[k][k]
            told.append(item)
        sums.append(told)
    return sums


def _short_basis(table):
    """Return the rows, told in the first basis, of a basis in which the walk is short."""
    # Steps of Lenstra, Lenstra and Lovasz: only pairs made smaller may still lie far askew.
    n = len(table)
    basis = [tuple([1 if k == at else 0 for k in range(n)]) for at in range(n)]
    k = 1
    while k < n:
        sums = _told_sums(_made_table(table, basis))
        for j in reversed(range(k)):
            times = (2 * sums[k][j] + sums[j][j]) // (2 * sums[j][j])
            if times:
                basis[k] = add(basis[k], scaled(basis[j], -times))
                sums[k] = [a - times * b for a, b in zip(sums[k], sums[j])] + sums[k][j + 1:]
        last = sums[k][k - 1]
        below = sums[k - 2][k - 2] if k > 1 else 1
        if 4 * (sums[k][k] * below + last * last) < 3 * sums[k - 1][k - 1] * sums[k - 1][k - 1]:
            basis[k - 1], basis[k] = basis[k], basis[k - 1]
            k = max(k - 1, 1)
        else:
            k += 1
    return basis


def _walked(sums, most):
    """Return the pairs of a norm from 1 to most and a row, one of each two rows that are negatives."""
    n = len(sums)
    found = []
    # The last items are chosen first; left is what the norm may still be, times a determinant.
    waiting = [((), most * sums[n - 1][n - 1])]
    while waiting:
        tail, left = waiting.pop()
        at = n - 1 - len(tail)
        if at < 0:
            if left < most:
                found.append((most - left, tail))
            if 2 * len(found) > MOST_ROWS:
                raise Refused("many")
            continue
        size = sums[at][at]
        below = sums[at - 1][at - 1] if at else 1
        shift = sum([sums[at + 1 + j][at] * item for j, item in enumerate(tail)])
        reach = isqrt(below * left)
        low = -((reach + shift) // size) if any(tail) else 0
        for item in range(low, (reach - shift) // size + 1):
            s = size * item + shift
            waiting.append(((item,) + tail, (below * left - s * s) // size))
    return found


def _rows_to(table, most):
    """Return the list of the rows with a norm from 1 to most, in order."""
    n = len(table)
    basis = _short_basis(table)
    found = []
    for size, tail in _walked(_told_sums(_made_table(table, basis)), most):
        row = moved(tail, basis, n)
        found.append((size, row))
        found.append((size, scaled(row, -1)))
    return sorted(found)


def _check_table(table):
    """Raise Malformed if the value is no table."""
    if not is_table(table):
        raise Malformed("no table")


def short_rows(table, most):
    """Return the tuple of the rows with a norm from 1 to most, in ascending order of the norms."""
    _check_table(table)
    if not is_integer(most) or not 0 <= most <= LARGEST_NORM:
        raise Malformed("no bound")
    return tuple([row for _, row in _rows_to(table, most)])


def theta_of_table(table, size):
    """Return the theta series of a table."""
    _check_table(table)
    if not is_integer(size) or not 1 <= size <= LARGEST_SIZE:
        raise Malformed("no length")
    items = [1] + [0] * (size - 1)
    for told, _ in _rows_to(table, 2 * size - 2):
        items[told // 2] += 1
    return tuple(items)


def e_eight():
    """Return the table E8."""
    joined = NEIGHBOURS + tuple([(j, i) for i, j in NEIGHBOURS])
    size = LARGEST_TABLE
    return tuple([tuple([2 if i == j else -((i, j) in joined) for j in range(size)]) for i in range(size)])
