"""Whole numbers: divisors, roots, rests, signs, written forms."""

from math import gcd, isqrt

from classledger.errors import NoText

DIGITS = "0123456789"
MOST_DIGITS = 4000

# No integer of at most 4000 digits has more bits, and none with so many has many more digits.
MOST_BITS = 13288

# exact_power tries the primes below 2^TRIED_BITS before it takes roots.
TRIED_BITS = 10
TRIED_BELOW = 1024

# Below this many bits halving an interval needs fewer steps than Newton's way.
HALVED_BITS = 32


def is_integer(value):
    """Return True if the value is an integer and not True or False."""
    return isinstance(value, int) and not isinstance(value, bool)


def common_divisor(a, b):
    """Return the greatest common divisor."""
    return gcd(a, b)


def combination(a, b):
    """Return (g, u, v) with the greatest common divisor g = a u + b v."""
    g, u, v = a, 1, 0
    h, s, t = b, 0, 1
    while h:
        q = g // h
        g, h = h, g - q * h
        u, s = s, u - q * s
        v, t = t, v - q * t
    if g < 0:
        return -g, -u, -v
    return g, u, v


def raised(b, e):
    """Return b^e for e from 0 on."""
    result = 1
    while e:
        if e & 1:
            result *= b
        e >>= 1
        if e:
            b *= b
    return result


def root(n, k):
    """Return the greatest r from 0 on with r^k at most n."""
    if k == 1 or n < 2:
        return n
    if k == 2:
        return isqrt(n)
    bits = n.bit_length()
    if k >= bits:
        return 1
    half = bits // (2 * k)
    if half < HALVED_BITS:
        return _root_between(n, k, 1, 1 << (bits // k + 1))
    # The root of the upper half of the digits is so near that Newton's way doubles them.
    return _root_below(n, k, (root(n >> (k * half), k) + 1) << half)


def _root_between(n, k, low, high):
    """Return the root, which is at least low and below high."""
    while high - low > 1:
        middle = (low + high) // 2
        if raised(middle, k) <= n:
            low = middle
        else:
            high = middle
    return low


def _root_below(n, k, high):
    """Return the root by Newton's way, from an integer that is above it."""
    while True:
        lower = ((k - 1) * high + n // raised(high, k - 1)) // k
        if lower >= high:
            return high
        high = lower


def is_square(n):
    """Return True if the integer is a square."""
    return n >= 0 and isqrt(n) ** 2 == n


def exact_power(n):
    """Return the only (b, k) with b^k = n, b from 2 on and k the greatest one."""
    common = _common_exponent(n)
    # Without a prime factor below 2^10 an exponent k means that 2^(10 k) is below n.
    most = common or n.bit_length() // TRIED_BITS
    base, exponent = n, 1
    for p in range(2, most + 1):
        if common % p or not _is_small_prime(p):
            continue
        lower = root(base, p)
        while lower > 1 and raised(lower, p) == base:
            base, exponent = lower, exponent * p
            lower = root(base, p)
    return base, exponent


def _common_exponent(n):
    """Return a multiple of each exponent of n, told by its small primes; 0 without any."""
    common = 0
    for p in range(2, TRIED_BELOW):
        times = 0
        while n % p == 0:
            n //= p
            times += 1
        common = gcd(common, times)
    return common


def _is_small_prime(p):
    """Return True if an integer from 2 on is a prime, by trying."""
    for d in range(2, isqrt(p) + 1):
        if p % d == 0:
            return False
    return True


def inverse(a, m):
    """Return the inverse of a modulo m, or None."""
    # As in combination, but the multiples of m need not be known.
    g, u = m, 0
    h, s = a % m, 1
    while h:
        q, left = divmod(g, h)
        g, h = h, left
        u, s = s, u - q * s
    return u % m if g == 1 else None


def power(a, e, m):
    """Return the rest of a^e modulo m, for e from 0 on."""
    result = 1 % m
    a %= m
    while e:
        if e & 1:
            result = result * a % m
        e >>= 1
        if e:
            a = a * a % m
    return result


def kronecker(a, n):
    """Return Kronecker's sign (a / n)."""
    if n == 0:
        return 1 if abs(a) == 1 else 0
    if not (a | n) & 1:
        return 0
    sign = -1 if n < 0 and a < 0 else 1
    n = abs(n)
    twos = (n & -n).bit_length() - 1
    if twos & 1 and a & 7 in (3, 5):
        sign = -sign
    n >>= twos
    return sign * _odd_sign(a % n, n)


def _odd_sign(a, n):
    """Return the sign (a / n) for an odd n above 0 and a rest a, by reciprocity."""
    sign = 1
    while a:
        twos = (a & -a).bit_length() - 1
        a >>= twos
        if twos & 1 and n & 7 in (3, 5):
            sign = -sign
        if a & n & 3 == 3:
            sign = -sign
        a, n = n % a, a
    return sign if n == 1 else 0


def joined(pairs):
    """Return the rest and the modulus that say the same as all pairs, or None."""
    s, m = 0, 1
    for r, k in pairs:
        g, u, _ = combination(m, k)
        if (r - s) % g:
            return None
        s += m * ((r - s) // g * u % (k // g))
        m *= k // g
    return s, m


def read_integer(text):
    """Return the integer with this written form."""
    if not isinstance(text, str) or not _is_written(text):
        raise NoText(0)
    return int(text)


def written(n):
    """Return the written form of an integer, None for one of more than 4000 digits."""
    # Python itself writes no integers of very many digits.
    if n.bit_length() > MOST_BITS:
        return None
    text = str(n)
    return text if len(text.removeprefix("-")) <= MOST_DIGITS else None


def _is_written(text):
    """Return True if the text is the written form of an integer."""
    digits = text.removeprefix("-")
    if not digits or len(digits) > MOST_DIGITS:
        return False
    if digits[0] == "0":
        return text == "0"
    # The isdigit of Python takes other signs than 0 to 9 as well.
    return all([digit in DIGITS for digit in digits])
