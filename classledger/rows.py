"""Rows of integers, tables of rows, and the lattices that they span."""

from math import gcd

from classledger.whole import combination, is_integer


def is_row(value, n):
    """Return True if the value is a row of the length n."""
    return isinstance(value, tuple) and len(value) == n and all([is_integer(item) for item in value])


def add(v, w):
    """Return the sum of two rows of one length."""
    return tuple([a + b for a, b in zip(v, w)])


def scaled(v, c):
    """Return the multiple of a row by an integer."""
    return tuple([c * a for a in v])


def dot(v, w):
    """Return the product of two rows of one length."""
    return sum([a * b for a, b in zip(v, w)])


def moved(x, rows, width):
    """Return the sum of the rows times the items of x."""
    result = (0,) * width
    for c, row in zip(x, rows):
        result = add(result, scaled(row, c))
    return result


def span(rows, width):
    """Return the reduced table of the lattice of all sums of multiples of the rows."""
    # One row after the other, each table reduced: otherwise the items on the way grow too large.
    space = ()
    for row in rows:
        space = _with_row(space, tuple(row))
    return space


def _pivot(row):
    """Return the index of the first item that is not 0, the length if there is none."""
    for at, item in enumerate(row):
        if item:
            return at
    return len(row)


def _with_row(space, row):
    """Return the reduced table of a lattice and one row more."""
    left = rest(space, row)
    rows = []
    for at, old in enumerate(space):
        place = _pivot(left)
        if place == _pivot(old):
            old, left = _merged(old, left, place)
            left = rest(space[at + 1:], left)
        elif place < _pivot(old):
            rows.append(left)
            left = (0,) * len(left)
        rows.append(old)
    if any(left):
        rows.append(left)
    return _tidied(rows)


def _merged(one, two, at):
    """Return two rows that span the same, the second one with 0 at the pivot of both."""
    g, u, v = combination(one[at], two[at])
    upper = add(scaled(one, u), scaled(two, v))
    lower = add(scaled(two, one[at] // g), scaled(one, -(two[at] // g)))
    return upper, lower


def _tidied(rows):
    """Return the reduced table of rows whose pivots increase."""
    space = ()
    for row in reversed(rows):
        if row[_pivot(row)] < 0:
            row = scaled(row, -1)
        space = (rest(space, row),) + space
    return space


def rest(space, x):
    """Return the rest of a row by the lattice of a reduced table."""
    for row in space:
        at = _pivot(row)
        times = x[at] // row[at]
        if times:
            x = add(x, scaled(row, -times))
    return x


def holds(space, x):
    """Return True if the row is in the lattice of a reduced table."""
    return not any(rest(space, x))


def _unit_row(at, n):
    """Return the row of the length n with 1 at one index and 0 elsewhere."""
    return tuple([1 if k == at else 0 for k in range(n)])


def _with_units(rows, width):
    """Return the reduced table of the rows, each with its own unit row behind it."""
    n = len(rows)
    return span([tuple(row) + _unit_row(at, n) for at, row in enumerate(rows)], width + n)


def kernel(rows, width):
    """Return the reduced table of the kernel of the rows."""
    return tuple([row[width:] for row in _with_units(rows, width) if not any(row[:width])])


def solve(rows, width, b):
    """Return a row x with x M = b for the table M of the rows, or None."""
    left = rest(_with_units(rows, width), tuple(b) + (0,) * len(rows))
    if any(left[:width]):
        return None
    return scaled(left[width:], -1)


def bar(rows, width, b):
    """Return None if solve finds a row, otherwise a pair (t, m) that shows that it cannot."""
    space = span(rows, width)
    if holds(space, b):
        return None
    for t in kernel(_columns(space, width), len(space)):
        product = dot(t, b)
        if product:
            return t, abs(product) + 1
    return _bar_within(space, width, b)


def _bar_within(space, width, b):
    """Return a bar for a row that is a sum of rational multiples of the rows, but not in the lattice."""
    # One of the multiples is not whole; the t of its row has this multiple times m as product.
    for index in range(len(space)):
        t, m = _told_by_row(space, width, index)
        if dot(t, b) % m:
            return t, m
    return None


def _told_by_row(space, width, index):
    """Return (t, m): the product of t with the row of this index is m, with all others 0."""
    pivots = [row[_pivot(row)] for row in space[:index + 1]]
    m = 1
    for item in pivots:
        m *= item
    t = [0] * width
    t[_pivot(space[index])] = m // pivots[index]
    for k in reversed(range(index)):
        t[_pivot(space[k])] = -dot(t, space[k]) // pivots[k]
    return tuple(t), m


def _columns(rows, width):
    """Return the columns of a table of the told width as rows."""
    return tuple([tuple([row[at] for row in rows]) for at in range(width)])


def order_modulo(rows, width, h):
    """Return the least N from 1 on for which N h is in the lattice of the rows, 0 without one."""
    order = 1
    left = h
    for row in span(rows, width):
        at = _pivot(row)
        factor = row[at] // gcd(row[at], left[at])
        order *= factor
        left = scaled(left, factor)
        left = add(left, scaled(row, -(left[at] // row[at])))
    return 0 if any(left) else order


def smith_divisors(rows, width):
    """Return the tuple of the divisors of the table of the rows."""
    table = span(rows, width)
    size = len(table)
    table = span(_columns(table, width), size)
    # Rows and columns by turns: the first item that is not alone in its row and column gets smaller.
    while not _is_diagonal(table):
        table = span(_columns(table, size), size)
    return _chained([table[k][k] for k in range(size)])


def _is_diagonal(table):
    """Return True if all items of a square table are 0 but those at equal indexes."""
    for k, row in enumerate(table):
        if any(row[:k]) or any(row[k + 1:]):
            return False
    return True


def _chained(numbers):
    """Return the divisors, each dividing the next one, of a diagonal table with these numbers."""
    chain = list(numbers)
    for low in range(len(chain)):
        for high in range(low + 1, len(chain)):
            g = gcd(chain[low], chain[high])
            chain[high] = chain[low] // g * chain[high]
            chain[low] = g
    return tuple(chain)


def determinant(rows):
    """Return the determinant of n rows of the length n."""
    table = [list(row) for row in rows]
    n = len(table)
    sign = before = 1
    for k in range(n):
        found = [at for at in range(k, n) if table[at][k]]
        if not found:
            return 0
        if found[0] != k:
            table[k], table[found[0]] = table[found[0]], table[k]
            sign = -sign
        # Bareiss: every item is a determinant of the rows, so the division is exact.
        top = table[k]
        for at in range(k + 1, n):
            first = table[at][k]
            table[at] = [(top[k] * item - first * above) // before for item, above in zip(table[at], top)]
        before = top[k]
    return sign * before
