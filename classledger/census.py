"""Curves counted: by classes, by traces, by structures and by class numbers."""

from classledger.alike import changed, turns_number
from classledger.curves import is_curve_prime
from classledger.definite import hurwitz
from classledger.errors import Malformed, Refused
from classledger.orders import symbols, trace_by_symbols
from classledger.squares import told_pairs
from classledger.whole import is_integer, raised, root

LARGEST_LISTED = 500
LARGEST_COUNTED = 250000
MOST_POWER = 100

# The invariants of the thirteen discriminants with one class.
RATIONAL = {
    -3: 0, -4: 1728, -7: -3375, -8: 8000, -11: -32768, -12: 54000, -16: 287496, -19: -884736, -27: -12288000,
    -28: 16581375, -43: -884736000, -67: -147197952000, -163: -262537412640768000}


def _check_prime(p):
    """Raise Malformed if the value is no prime over which there are curves."""
    if not is_curve_prime(p):
        raise Malformed("no prime")


def _check_integer(t):
    """Raise Malformed if the value is no integer."""
    if not is_integer(t):
        raise Malformed("no integer")


def _check_factor(k):
    """Raise Malformed if the value is no integer from 1 on."""
    if not is_integer(k) or k < 1:
        raise Malformed("no integer from 1 on")


def _check_counted(p):
    """Refuse a prime whose curves are too many for class numbers by counting."""
    if p > LARGEST_COUNTED:
        raise Refused("large")


def curve_census(p):
    """Return the ascending tuple of (a, b, w, t) of all told curves (p, a, b)."""
    _check_prime(p)
    if p > LARGEST_LISTED:
        raise Refused("large")
    table = symbols(p)
    met = set()
    found = []
    for a in range(p):
        for b in range(p):
            curve = (p, a, b)
            # The first curve that is met of a class is its least one.
            if curve in met or not _is_smooth(curve):
                continue
            for u in range(1, p // 2 + 1):
                met.add(changed(curve, u))
            found.append((a, b, turns_number(curve), trace_by_symbols(curve, table)))
    return tuple(found)


def _is_smooth(curve):
    """Return True if p does not divide 4 a^3 + 27 b^2."""
    p, a, b = curve
    return (4 * a * a * a + 27 * b * b) % p != 0


def _count(p, t, k):
    """Return the number of the curves with the trace t whose m is a multiple of k."""
    n = 4 * p - t * t
    if n < 0 or (p - 1) % k or (p + 1 - t) % (k * k):
        return 0
    return (p - 1) * hurwitz(n // (k * k)) // 24


def curves_with(p, t):
    """Return the number of the curves over p with the trace t."""
    _check_prime(p)
    _check_integer(t)
    _check_counted(p)
    return _count(p, t, 1)


def curves_with_part(p, t, k):
    """Return the number of the curves over p with the trace t whose m is a multiple of k."""
    _check_prime(p)
    _check_integer(t)
    _check_factor(k)
    _check_counted(p)
    return _count(p, t, k)


def curve_structures(p, t):
    """Return the ascending tuple of the pairs ((m, n), c) of a structure and the number of its curves."""
    _check_prime(p)
    _check_integer(t)
    _check_counted(p)
    if t * t > 4 * p:
        return ()
    number = p + 1 - t
    counts = {}
    for m in reversed(range(1, root(number, 2) + 1)):
        if (p - 1) % m == 0 and number % (m * m) == 0:
            more = sum([counts[k] for k in counts if k % m == 0])
            counts[m] = _count(p, t, m) - more
    return tuple([((m, number // m), counts[m]) for m in sorted(counts) if counts[m]])


def number_over(p, t, k):
    """Return the number of the points over p^k of a curve over p with the trace t."""
    _check_prime(p)
    _check_integer(t)
    _check_factor(k)
    if t * t > 4 * p:
        raise Refused("trace")
    if k > MOST_POWER:
        raise Refused("large")
    before, now = 2, t
    for _ in range(k - 1):
        before, now = now, t * now - p * before
    return raised(p, k) + 1 - now


def rational_invariant(D):
    """Return the invariant of one of the thirteen discriminants, None for every other value."""
    if not is_integer(D):
        return None
    return RATIONAL.get(D)


def rational_traces(D, p):
    """Return the ascending tuple of the traces over p of the curves with the invariant of D."""
    _check_prime(p)
    if rational_invariant(D) is None or D % p == 0:
        raise Malformed("no such discriminant")
    firsts = [x for x, _ in told_pairs(-D, 4 * p)]
    if not firsts:
        return (0,)
    return tuple(sorted({t for x in firsts for t in (x, -x)}))
