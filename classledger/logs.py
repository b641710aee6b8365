"""Logarithms of points, and rows of points in groups, one prime after the other."""

from classledger.curves import multiple_of, sum_of
from classledger.pairing import pairing_of
from classledger.primes import factors
from classledger.whole import inverse, joined, raised, root


def _small_steps(curve, q, top):
    """Return what _digit needs for a point of the prime order q: its first multiples and the great step."""
    size = min(root(q // 2, 2) + 1, q - 1)
    numbers = {}
    T = top
    for j in range(1, size + 1):
        numbers.setdefault(T[0], j)
        T = sum_of(curve, T, top)
    return size, numbers, top, multiple_of(curve, -2 * size - 1, top)


def _digit(curve, q, steps, R):
    """Return the k from 0 to q - 1 for which R is the multiple by k of the point of the steps, or None."""
    size, numbers, top, stride = steps
    k = 0
    while k < q + size:
        if R == ():
            return k % q
        if R[0] in numbers:
            j = numbers[R[0]]
            return (k + j) % q if R == multiple_of(curve, j, top) else (k - j) % q
        R = sum_of(curve, R, stride)
        k += 2 * size + 1
    return None


def chain_of(curve, q, e, A):
    """Return what power_log needs for a point A of the order q^e, e from 1 on."""
    top = multiple_of(curve, raised(q, e - 1), A)
    return q, e, A, _small_steps(curve, q, top)


def power_log(curve, chain, R):
    """Return the k from 0 to q^e - 1 for which R is the multiple of A by k, or None."""
    q, e, A, steps = chain
    k = 0
    factor = 1
    for at in reversed(range(e)):
        digit = _digit(curve, q, steps, multiple_of(curve, raised(q, at), R))
        if digit is None:
            return None
        R = sum_of(curve, R, multiple_of(curve, -digit * factor, A))
        k += digit * factor
        factor *= q
    return k


def _field_steps(p, q, z):
    """Return what _field_log needs for a number of the order q modulo p."""
    size = root(q, 2) + 1
    numbers = {}
    x = 1
    for j in range(size):
        numbers.setdefault(x, j)
        x = x * z % p
    return size, numbers, inverse(x, p)


def _field_log(p, steps, v):
    """Return a k from 0 on for which v is the power by k of the number of the steps, where there is one."""
    size, numbers, stride = steps
    k = 0
    while v not in numbers:
        v = v * stride % p
        k += size
    return k + numbers[v]


def _square_of(curve, q, ends, points):
    """Return what _pair_row needs for independent points of the orders q^e and q^f, f from 1 on."""
    (e, f), (A, B) = ends, points
    top = multiple_of(curve, raised(q, e - 1), A)
    side = multiple_of(curve, raised(q, f - 1), B)
    return q, top, side, _field_steps(curve[0], q, pairing_of(curve, q, top, side))


def _pair_digits(curve, square, T):
    """Return x and y from 0 to q - 1 with T = x top + y side, for a point T with q T = ()."""
    # Top and side span all these points, and the pairing of T with one of them tells the multiple of the other.
    q, top, side, steps = square
    x = _field_log(curve[0], steps, pairing_of(curve, q, T, side))
    y = _field_log(curve[0], steps, pairing_of(curve, q, top, T))
    return x % q, y % q


def _pair_row(curve, part, R):
    """Return the row (i, j) with i A + j B = R for a point R whose multiple by the order of A is (), or None."""
    q, (e, f), (A, B), square = part
    i = j = 0
    for at in range(e):
        x, y = _pair_digits(curve, square, multiple_of(curve, raised(q, e - 1 - at), R))
        if at < e - f and y:
            return None
        x, y = x * raised(q, at), y * raised(q, max(at - e + f, 0))
        R = sum_of(curve, R, multiple_of(curve, -x, A))
        R = sum_of(curve, R, multiple_of(curve, -y, B))
        i, j = i + x, j + y
    return i, j


def _times(q, m):
    """Return how often the prime q divides m."""
    times = 0
    while m % q == 0:
        m //= q
        times += 1
    return times


def parts_of(curve, group):
    """Return the list of what row_within needs for each prime that divides the order of the first point."""
    G, n, H, m = group
    parts = []
    for q, e in factors(n):
        f = _times(q, m)
        rest = n // raised(q, e)
        A, B = multiple_of(curve, rest, G), multiple_of(curve, rest, H)
        steps = _square_of(curve, q, (e, f), (A, B)) if f else chain_of(curve, q, e, A)
        parts.append((q, (e, f), (A, B), steps))
    return parts


def row_within(curve, group, parts, P):
    """Return the row of a point in a group with these parts, None if it is none of its points."""
    n = group[1]
    if multiple_of(curve, n, P) != ():
        return None
    first, second = [], []
    for part in parts:
        q, (e, f), _, steps = part
        R = multiple_of(curve, n // raised(q, e), P)
        row = _pair_row(curve, part, R) if f else (power_log(curve, steps, R), 0)
        if row is None or row[0] is None:
            return None
        first.append((row[0], raised(q, e)))
        second.append((row[1], raised(q, f)))
    return joined(first)[0], joined(second)[0]
