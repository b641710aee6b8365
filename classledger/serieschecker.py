"""The judges of the papers of series and of traces."""

from classledger.definite import told_reduced
from classledger.level import cusp_dimension, form_of
from classledger.primechecker import is_paper
from classledger.rows import is_row
from classledger.traces import lesser_sum, told_number
from classledger.whole import is_integer, root


def takes_goes(f, k, paper):
    """Return True if the paper shows that a series goes with the weight k, or that it does not."""
    d = cusp_dimension(k)
    if is_paper(paper, "goes", 2):
        return is_row(paper[1], d + 1) and form_of(paper[1], k, len(f)) == f
    if not is_paper(paper, "bar", 3):
        return False
    _, row, n = paper
    if not is_row(row, d + 1) or not is_integer(n) or not d < n < len(f):
        return False
    told = form_of(row, k, len(f))
    return told[:d + 1] == f[:d + 1] and told[n] != f[n]


def takes_trace(k, n, paper):
    """Return True if the paper tells the trace of T_n on the cusp forms of the weight k."""
    if not is_paper(paper, "trace", 3):
        return False
    _, value, rows = paper
    most = root(4 * n, 2)
    if not is_integer(value) or not isinstance(rows, tuple) or len(rows) != 2 * most + 1:
        return False
    total = 12 * lesser_sum(k, n)
    for t, row in zip(range(-most, most + 1), rows):
        if not _is_told(row, t, n):
            return False
        total += told_number(k, t, n) * _twelve(t * t - 4 * n, row[1])
    return 24 * value == -total


def _is_told(row, t, n):
    """Return True if a row is the pair of t and the reduced forms of the discriminant t^2 - 4 n."""
    if not isinstance(row, tuple) or len(row) != 2 or not is_integer(row[0]) or row[0] != t:
        return False
    forms = row[1]
    if not isinstance(forms, tuple) or not all([is_row(f, 3) for f in forms]):
        return False
    return forms == _reduced_by_loop(t * t - 4 * n)


def _reduced_by_loop(D):
    """Return the ascending tuple of the reduced forms of D, at most 0, by the loop of point 4.4."""
    found = []
    a = 1
    while 3 * a * a <= -D:
        for b in range(1 - a, a + 1):
            f = (a, b, (b * b - D) // (4 * a))
            if (b * b - D) % (4 * a) == 0 and told_reduced(f):
                found.append(f)
        a += 1
    return tuple(found)


def _twelve(D, forms):
    """Return 12 H(-D), out of the reduced forms of D, as point 4.6 tells it."""
    if D == 0:
        return -1
    total = 0
    for a, b, c in forms:
        total += 4 if a == b == c else 6 if a == c and b == 0 else 12
    return total
