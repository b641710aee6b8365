"""The makers of the papers of series and of traces."""

from classledger.definite import reduced_forms
from classledger.hecke import check_index
from classledger.level import check_weight, parted
from classledger.traces import trace_by_classes
from classledger.whole import root


def goes_paper(f, k):
    """Return a paper that a series goes with the weight k, or that it does not."""
    row, left = parted(f, k)
    for n, item in enumerate(left):
        if item:
            return ("bar", row, n)
    return ("goes", row)


def trace_paper(k, n):
    """Return a paper of the trace of T_n on the cusp forms of the weight k."""
    check_weight(k)
    check_index(n)
    most = root(4 * n, 2)
    rows = []
    for t in range(-most, most + 1):
        D = t * t - 4 * n
        rows.append((t, reduced_forms(D) if D else ()))
    return ("trace", trace_by_classes(k, n), tuple(rows))
