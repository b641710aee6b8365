"""Primes, factors, divisors, and orders modulo a prime."""

from math import gcd, isqrt

from classledger.errors import Refused
from classledger.whole import power, raised

# Below the bound an odd integer from 43 on that stands the rounds by all bases is a prime.
BASES = (2, 3, 5, 7, 11, 13, 17, 19, 23, 29, 31, 37, 41)
BOUND = 3317044064679887385961981

LARGEST = 10 ** 20
MOST_DIVISORS = 10000

# What is left by trial division to this integer and is below its square is a prime.
TRIED_TO = 1000

# So many differences are multiplied before one common divisor is taken.
BATCH = 128

# Up to so many integers of one order are listed to find the least one.
MOST_LISTED = 10000


def is_prime(n):
    """Return True if the integer is a prime."""
    if n >= BOUND:
        raise Refused("large")
    if n < 2:
        return False
    if n <= TRIED_TO * TRIED_TO:
        return least_divisor(n, TRIED_TO) == n
    for p in BASES:
        if n % p == 0:
            return False
    for a in BASES:
        if not stands_round(n, a):
            return False
    return True


def least_divisor(n, most):
    """Return the least divisor of n that is at least 2 and at most most, n itself without one."""
    for d in (2, 3):
        if n % d == 0:
            return d
    most = min(most, isqrt(n))
    d = 5
    while d <= most:
        if n % d == 0:
            return d
        if n % (d + 2) == 0:
            return d + 2
        d += 6
    return n


def stands_round(n, a):
    """Return True if an odd n from 3 on stands the strong round by a."""
    s = ((n - 1) & (1 - n)).bit_length() - 1
    x = power(a, (n - 1) >> s, n)
    if x in (1, n - 1):
        return True
    for _ in range(s - 1):
        x = x * x % n
        if x == n - 1:
            return True
    return False


def primes_to(n):
    """Return the ascending tuple of the primes that are at most n."""
    if n < 2:
        return ()
    flags = [True] * (n + 1)
    for p in range(2, isqrt(n) + 1):
        if flags[p]:
            flags[p * p::p] = [False] * ((n - p * p) // p + 1)
    return tuple([p for p in range(2, n + 1) if flags[p]])


def next_prime(n):
    """Return the least prime above n."""
    if n < 2:
        return 2
    n += 1 + n % 2
    while not is_prime(n):
        n += 2
    return n


def factors(n):
    """Return the tuple of the pairs (p, k) of the primes that divide n and how often."""
    if n > LARGEST:
        raise Refused("large")
    counts = {}
    for p in _prime_list(n):
        counts[p] = counts.get(p, 0) + 1
    return tuple([(p, counts[p]) for p in sorted(counts)])


def _prime_list(n):
    """Return the primes of which n is the product, in any order."""
    found = []
    p = least_divisor(n, TRIED_TO)
    while p <= TRIED_TO and n > 1:
        found.append(p)
        n //= p
        p = least_divisor(n, TRIED_TO)
    waiting = [n] if n > 1 else []
    while waiting:
        part = waiting.pop()
        if is_prime(part):
            found.append(part)
        else:
            d = _any_divisor(part)
            waiting.append(d)
            waiting.append(part // d)
    return found


def _any_divisor(n):
    """Return a divisor other than 1 and n of a composite n."""
    c = 1
    d = _met_divisor(n, c)
    while d == n:
        c += 1
        d = _met_divisor(n, c)
    return d


def _met_divisor(n, c):
    """Return the divisor that Pollard's way with x^2 + c meets, maybe n."""
    y = 2
    length = product = d = 1
    while d == 1:
        x = y
        for _ in range(length):
            y = (y * y + c) % n
        done = 0
        while done < length and d == 1:
            start = y
            for _ in range(min(BATCH, length - done)):
                y = (y * y + c) % n
                product = product * abs(x - y) % n
            d = gcd(product, n)
            done += BATCH
        length *= 2
    if d < n:
        return d
    # The batch has met all prime factors: go through it again, difference by difference.
    d = 1
    while d == 1:
        start = (start * start + c) % n
        d = gcd(abs(x - start), n)
    return d


def divisors_of(n):
    """Return the ascending tuple of all divisors of n."""
    pairs = factors(n)
    many = 1
    for _, k in pairs:
        many *= k + 1
    if many > MOST_DIVISORS:
        raise Refused("many")
    divisors = [1]
    for p, k in pairs:
        powers = [raised(p, e) for e in range(k + 1)]
        divisors = [d * q for d in divisors for q in powers]
    return tuple(sorted(divisors))


def divisor_sum(n, k):
    """Return the sum of the powers d^k of the divisors of n."""
    total = 1
    for p, times in factors(n):
        step = raised(p, k)
        part = 1
        for _ in range(times):
            part = part * step + 1
        total *= part
    return total


def root_of_order(m, l):
    """Return the least integer from 1 on with the order m modulo the prime l."""
    parts = [m // q for q, _ in factors(m)]
    if m <= MOST_LISTED:
        return _least_listed(m, l, parts)
    a = 1
    while power(a, m, l) != 1 or not _has_full_order(a, l, parts):
        a += 1
    return a


def _has_full_order(a, l, parts):
    """Return True if no power of a by one of the parts is 1 modulo l."""
    for part in parts:
        if power(a, part, l) == 1:
            return False
    return True


def _least_listed(m, l, parts):
    """Return the least integer of the order m: they are the powers of one of them."""
    a = 1
    base = 1
    while not _has_full_order(base, l, parts):
        a += 1
        base = power(a, (l - 1) // m, l)
    least = x = base
    for e in range(2, m):
        x = x * base % l
        if x < least and gcd(e, m) == 1:
            least = x
    return least
