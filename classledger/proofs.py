"""Papers that show primes and factors."""

from classledger.errors import Refused
from classledger.primes import LARGEST, factors, is_prime
from classledger.whole import power

# Up to this integer a prime needs no more than the word of its paper.
SMALL = 10 ** 6


def prime_paper(n):
    """Return a paper that n is a prime, or that it is none."""
    if n > LARGEST:
        raise Refused("large")
    if is_prime(n):
        return _shown(n)
    return ("factor", factors(n)[0][0])


def _shown(n):
    """Return a paper of a prime."""
    if n <= SMALL:
        return ("small",)
    return ("powers", tuple([(q, _base(n, q), _shown(q)) for q, _ in factors(n - 1)]))


def _base(n, q):
    """Return the least a whose power by (n - 1) / q is not 1 modulo the prime n."""
    a = 2
    while power(a, (n - 1) // q, n) == 1:
        a += 1
    return a


def factors_paper(n):
    """Return a paper of the factors of n."""
    return ("factors", tuple([(p, k, _shown(p)) for p, k in factors(n)]))
