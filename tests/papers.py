"""The conditions of the papers of points 2.5 and 2.8, by loops of their own."""

import math

from tests import slow


def wrong_prime(n, paper):
    """Return what is wrong with a paper that n is a prime, None if nothing is."""
    if type(paper) is not tuple or not paper:
        return "no paper"
    if paper == ("small",):
        return None if n <= 10 ** 6 and slow.is_prime(n) else "not small"
    if paper[0] != "powers" or len(paper) != 2 or type(paper[1]) is not tuple:
        return "no kind"
    product = 1
    before = 0
    for row in paper[1]:
        if type(row) is not tuple or len(row) != 3:
            return "no triple"
        q, a, below = row
        if type(q) is not int or type(a) is not int or q <= before or (n - 1) % q:
            return "no q"
        wrong = wrong_prime(q, below)
        if wrong:
            return wrong
        if pow(a, n - 1, n) != 1 or math.gcd(pow(a, (n - 1) // q, n) - 1, n) != 1:
            return "no a"
        while (n - 1) % (product * q) == 0:
            product *= q
        before = q
    return None if product * product > n else "too few"


def wrong_factors(n, paper):
    """Return what is wrong with a paper of the factors of n, None if nothing is."""
    if type(paper) is not tuple or len(paper) != 2 or paper[0] != "factors" or type(paper[1]) is not tuple:
        return "no paper"
    product = 1
    before = 0
    for row in paper[1]:
        if type(row) is not tuple or len(row) != 3:
            return "no triple"
        p, k, below = row
        if type(p) is not int or type(k) is not int or p <= before or k < 1:
            return "no row"
        wrong = wrong_prime(p, below)
        if wrong:
            return wrong
        product *= p ** k
        before = p
    return None if product == n else "no product"
