"""Square roots modulo an integer, and sums of squares."""

from math import gcd

from classledger.errors import Refused
from classledger.primes import divisors_of, factors
from classledger.proofs import prime_paper
from classledger.whole import inverse, kronecker, power, raised, root

LARGEST = 10 ** 12
LARGEST_THREE = 10 ** 6
MOST_ROOTS = 10000


def _check_size(n, largest):
    """Refuse an integer above the bound."""
    if n > largest:
        raise Refused("large")


def square_roots(a, m):
    """Return the ascending tuple of the roots of a modulo m."""
    _check_size(m, LARGEST)
    parts = _root_parts(a, m)
    if parts is None:
        return ()
    many = m
    for rests, step in parts:
        many = many * len(rests) // step
    if many > MOST_ROOTS:
        raise Refused("many")
    return _put_together(parts, m)


def _root_parts(a, m):
    """Return the roots for each power of a prime in m, as _power_roots tells them, or None."""
    parts = []
    for l, k in factors(m):
        part = _power_roots(a, l, k)
        # No root modulo one of the powers: there is none modulo m, whatever the others have.
        if not part[0]:
            return None
        parts.append(part)
    return parts


def _put_together(parts, m):
    """Return all roots modulo m, ascending, out of those for the powers of primes."""
    rests = [0]
    modulus = 1
    for told, step in parts:
        back = inverse(modulus, step)
        rests = [r + modulus * ((s - r) * back % step) for r in rests for s in told]
        modulus *= step
    rests = sorted(rests)
    return tuple([r + k for k in range(0, m, modulus) for r in rests])


def _power_roots(a, l, k):
    """Return rests and a step, a power of l: the roots modulo l^k are what is equal to them modulo it."""
    a %= raised(l, k)
    if a == 0:
        return [0], raised(l, (k + 1) // 2)
    times = 0
    while a % l == 0:
        a //= l
        times += 1
    if times % 2:
        return [], 1
    factor = raised(l, times // 2)
    rests = _unit_roots_two(a, k - times) if l == 2 else _unit_roots(a, l, k - times)
    return [factor * b for b in rests], raised(l, k - times // 2)


def roots_modulo_prime(a, l):
    """Return the ascending list of the roots of a modulo an odd prime."""
    a %= l
    if a == 0:
        return [0]
    return sorted(_unit_roots(a, l, 1))


def _unit_roots(a, l, k):
    """Return the roots modulo l^k of an integer that the odd prime l does not divide."""
    if kronecker(a, l) != 1:
        return []
    b = _root_modulo_prime(a % l, l)
    modulus = l
    for _ in range(k - 1):
        modulus *= l
        b = (b - (b * b - a) * inverse(2 * b, modulus)) % modulus
    return [b, modulus - b]


def _unit_roots_two(a, k):
    """Return the roots modulo 2^k of an odd integer."""
    if a % min(8, 1 << k) != 1:
        return []
    if k < 3:
        return [1, 3][:k]
    b = 1
    for e in range(3, k):
        if (b * b - a) % (1 << (e + 1)):
            b += 1 << (e - 1)
    modulus = 1 << k
    half = modulus // 2
    return [b % modulus, -b % modulus, (b + half) % modulus, (half - b) % modulus]


def _root_modulo_prime(a, l):
    """Return a root of a square other than 0 modulo an odd prime, by Tonelli's way."""
    odd, twos = l - 1, 0
    while odd % 2 == 0:
        odd //= 2
        twos += 1
    b = power(a, (odd + 1) // 2, l)
    # b^2 is a times left, whose order is a power of 2; turn has the greatest such order.
    left = power(a, odd, l)
    turn = power(nonsquare(l), odd, l)
    while left != 1:
        times, x = 0, left
        while x != 1:
            x = x * x % l
            times += 1
        step = power(turn, 1 << (twos - times - 1), l)
        b = b * step % l
        turn = step * step % l
        left = left * turn % l
        twos = times
    return b


def nonsquare(l):
    """Return the least integer from 2 on that is no square modulo an odd prime."""
    a = 2
    while kronecker(a, l) != -1:
        a += 1
    return a


def told_pairs(d, m):
    """Return the ascending tuple of the pairs (x, y) from 0 on with x^2 + d y^2 = m."""
    _check_size(m, LARGEST)
    # For a great d there may be very many roots, but there are few y.
    if d * d > m:
        return _walked_pairs(d, m)
    found = []
    for g in divisors_of(_square_part(m)):
        found.extend([(g * x, g * y) for x, y in _primitive_pairs(d, m // (g * g))])
    return tuple(sorted(found))


def _walked_pairs(d, m):
    """Return the pairs of told_pairs by trying every y."""
    found = []
    for y in range(root(m // d, 2) + 1):
        square = m - d * y * y
        x = root(square, 2)
        if x * x == square:
            found.append((x, y))
    return tuple(sorted(found))


def _square_part(m):
    """Return the greatest g whose square divides m."""
    g = 1
    for p, k in factors(m):
        g *= raised(p, k // 2)
    return g


def _primitive_pairs(d, m):
    """Return the pairs (x, y) of told_pairs without common divisor, in any order."""
    if m == 1:
        return [(1, 0), (0, 1)] if d == 1 else [(1, 0)]
    parts = _root_parts(-d, m)
    if parts is None:
        return []
    found = set()
    for b in _put_together(parts, m):
        before, x = m, b
        while x * x > m:
            before, x = x, before % x
        y = root((m - x * x) // d, 2)
        if x * x + d * y * y == m and gcd(x, y) == 1:
            found.add((x, y))
            if d == 1:
                found.add((y, x))
    return sorted(found)


def ways_two(n):
    """Return the number of ways to write n as a sum of two squares."""
    _check_size(n, LARGEST)
    if n == 0:
        return 1
    # The signs (-4 / d) are those of powers of primes, multiplied; so are their sums.
    total = 4
    for p, k in factors(n):
        total *= sum([kronecker(-4, raised(p, e)) for e in range(k + 1)])
    return total


def ways_three(n):
    """Return the number of ways to write n as a sum of three squares."""
    _check_size(n, LARGEST_THREE)
    most = root(n, 2)
    return ways_two(n) + 2 * sum([ways_two(n - z * z) for z in range(1, most + 1)])


def ways_four(n):
    """Return the number of ways to write n as a sum of four squares."""
    _check_size(n, LARGEST)
    if n == 0:
        return 1
    return 8 * sum([d for d in divisors_of(n) if d % 4])


def ways_eight(n):
    """Return the number of ways to write n as a sum of eight squares."""
    _check_size(n, LARGEST)
    if n == 0:
        return 1
    return 16 * sum([-d ** 3 if (n + d) % 2 else d ** 3 for d in divisors_of(n)])


def two_squares(n):
    """Return a paper that n is a sum of two squares, or that it is none."""
    _check_size(n, LARGEST)
    for l, k in factors(n):
        if l % 4 == 3 and k % 2:
            return ("none", l, k, prime_paper(l))
    x, y = told_pairs(1, n)[0]
    return ("squares", x, y)


def three_squares(n):
    """Return a paper that n is a sum of three squares, or that it is none."""
    _check_size(n, LARGEST)
    k = 0
    while n % 4 == 0:
        n //= 4
        k += 1
    if n % 8 == 7:
        return ("none", k, n // 8)
    # An integer that 4 does not divide has many such sums, so a z is found soon.
    z = root(n, 2)
    while not ways_two(n - z * z):
        z -= 1
    x, y = _any_two(n - z * z)
    return _ascending_paper([x << k, y << k, z << k])


def _any_two(n):
    """Return two integers from 0 on whose squares have the sum n, where there are such."""
    return told_pairs(1, n)[0] if n else (0, 0)


def _ascending_paper(items):
    """Return the paper of a sum of squares."""
    return ("squares",) + tuple(sorted(items))


def four_squares(n):
    """Return a paper that n is a sum of four squares."""
    paper = three_squares(n)
    if paper[0] == "squares":
        return ("squares", 0) + paper[1:]
    # Less 4^k there is 4^k (8 m + 6) left, which is a sum of three squares.
    w = 1 << paper[1]
    return _ascending_paper((w,) + three_squares(n - w * w)[1:])
