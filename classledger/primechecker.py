"""The judges of the papers of primes, of factors and of squares."""

from math import gcd

from classledger.primes import is_prime, stands_round
from classledger.proofs import SMALL
from classledger.rows import is_row
from classledger.whole import inverse, is_integer, power, root


def is_paper(value, word, size):
    """Return True if the value is a tuple of this many items with this word ahead."""
    return isinstance(value, tuple) and len(value) == size and value[0] == word


def takes_prime(n, paper):
    """Return True if the paper shows that n is a prime, or that it is none."""
    return shows_prime(n, paper) or _shows_composite(n, paper)


def _shows_composite(n, paper):
    """Return True if the paper shows that n is no prime."""
    if is_paper(paper, "factor", 2):
        d = paper[1]
        return is_integer(d) and 2 <= d < n and n % d == 0
    if is_paper(paper, "witness", 2):
        a = paper[1]
        return is_integer(a) and 2 <= a < n and n % 2 == 1 and not stands_round(n, a)
    return False


def shows_prime(n, paper):
    """Return True if the paper shows that an integer from 2 on is a prime."""
    if is_paper(paper, "small", 1):
        return n <= SMALL and is_prime(n)
    if is_paper(paper, "powers", 2):
        return _holds_powers(n, paper[1])
    if is_paper(paper, "curve", 6):
        return _holds_curve(n, paper[1:])
    return False


def _holds_powers(n, rows):
    """Return True if the rows of a paper of the kind "powers" hold for n."""
    if not isinstance(rows, tuple):
        return False
    before = product = 1
    for row in rows:
        if not isinstance(row, tuple) or len(row) != 3:
            return False
        q, a, paper = row
        # The q are tested ahead of their papers: so few that the papers are read soon.
        if not is_row((q, a), 2) or q <= before or (n - 1) % q:
            return False
        if power(a, n - 1, n) != 1 or gcd(power(a, (n - 1) // q, n) - 1, n) != 1 or not shows_prime(q, paper):
            return False
        product *= _power_part(n - 1, q)
        before = q
    return product * product > n


def _power_part(n, q):
    """Return the greatest power of q, from 2 on, that divides n, from 1 on."""
    part = 1
    while n % q == 0:
        n //= q
        part *= q
    return part


def _holds_curve(n, items):
    """Return True if the items of a paper of the kind "curve" hold for n."""
    a, x, y, q, paper = items
    if not is_row((a, x, y, q), 4) or n % 2 == 0 or n % 3 == 0:
        return False
    if min(a, x, y) < 0 or max(a, x, y) >= n:
        return False
    b = y * y - x * x * x - a * x
    if gcd(4 * a * a * a + 27 * b * b, n) != 1:
        return False
    least = root(n - 1, 4) + 1
    # No prime above the upper bound is the order of a point (Hasse), so there the steps need not be made.
    if q <= (least + 1) * (least + 1) or q > (root(n, 2) + 2) * (root(n, 2) + 2):
        return False
    return _leads_to_zero(n, a, (x, y), q) and shows_prime(q, paper)


def _leads_to_zero(n, a, P, q):
    """Return True if the steps with the number q lead from the pair P to (), and are not broken."""
    T = P
    for at in reversed(range(q.bit_length() - 1)):
        T = _sum_modulo(n, a, T, T)
        if T is not None and q >> at & 1:
            T = _sum_modulo(n, a, T, P)
        if T is None:
            return False
    return T == ()


def _sum_modulo(n, a, P, Q):
    """Return the sum of two points modulo n, None if the denominator has no inverse."""
    if P == () or Q == ():
        return P + Q
    (x, y), (z, w) = P, Q
    if x == z and (y + w) % n == 0:
        return ()
    if P == Q:
        above, below = 3 * x * x + a, inverse(2 * y, n)
    else:
        above, below = w - y, inverse(z - x, n)
    if below is None:
        return None
    s = above * below % n
    u = (s * s - x - z) % n
    return (u, (s * (x - u) - y) % n)


def takes_factors(n, paper):
    """Return True if the paper tells the factors of n."""
    if not is_paper(paper, "factors", 2) or not isinstance(paper[1], tuple):
        return False
    before = 1
    for row in paper[1]:
        if not isinstance(row, tuple) or len(row) != 3:
            return False
        p, k, below = row
        if not is_row((p, k), 2) or p <= before or k < 1 or not _divides_often(n, p, k) or not shows_prime(p, below):
            return False
        n //= _power_part(n, p)
        before = p
    return n == 1


def _divides_often(n, l, k):
    """Return True if l, from 2 on, divides n just k times."""
    times = 0
    while n % l == 0:
        n //= l
        times += 1
    return times == k


def _sums_to(n, items, many):
    """Return True if the items are so many integers whose squares have the sum n."""
    return is_row(items, many) and sum([x * x for x in items]) == n


def takes_two(n, paper):
    """Return True if the paper shows that n is a sum of two squares, or that it is none."""
    if is_paper(paper, "squares", 3):
        return _sums_to(n, paper[1:], 2)
    if not is_paper(paper, "none", 4) or not is_row(paper[1:3], 2):
        return False
    _, l, k, below = paper
    if l < 3 or l % 4 != 3 or k % 2 == 0:
        return False
    return _divides_often(n, l, k) and shows_prime(l, below)


def takes_three(n, paper):
    """Return True if the paper shows that n is a sum of three squares, or that it is none."""
    if is_paper(paper, "squares", 4):
        return _sums_to(n, paper[1:], 3)
    if not is_paper(paper, "none", 3) or not is_row(paper[1:], 2):
        return False
    _, k, m = paper
    # 8 m + 7 is odd, so k is how often 4 divides n.
    return k >= 0 and m >= 0 and _divides_often(n, 4, k) and n // _power_part(n, 4) == 8 * m + 7


def takes_four(n, paper):
    """Return True if the paper shows that n is a sum of four squares."""
    return is_paper(paper, "squares", 5) and _sums_to(n, paper[1:], 4)
