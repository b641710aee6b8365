"""Slow ways for the tests: trying, counting, walking. They use nothing of the program."""

import math


def nested(depth):
    """Return a tuple that is nested so deep."""
    value = ()
    for _ in range(depth - 1):
        value = (value,)
    return value


# Values that are no integer, no row, no form, no matrix and no discriminant.
ODD_VALUES = (
    None, True, False, "", "1", "D", (), [], (None,), (True,), [1], [1, 2, 3], (1, 2), (1, 2, 3, 4), (1, "2", 3),
    (1, True, 6), (True, 1, 6), (1, 1, True), (1, None, 6), ((1,), 1, 6), [1, 1, 6], (1, 2, 1), (0, 0, 0), (-1, 1, -6),
    ((1, 0), (0, 1), (0, 0)), ((1, 0),), [(1, 0), (0, 1)], ([1, 0], (0, 1)), ((1, 0), [0, 1]), ((True, 0), (0, 1)),
    ((1, 0), (0, True)), ((1, False), (0, 1)), ((1, 0), (0, -1)), ((1, 0, 0), (0, 1)), ((1, 0), (0, 1, 0)),
    ((2, 0), (0, 1)), ((1, "0"), (0, 1)), nested(60), ValueError("value"),
)


def gcd(a, b):
    """Return the greatest common divisor, by trying."""
    a, b = abs(a), abs(b)
    if 0 in (a, b):
        return a + b
    return max(d for d in range(1, min(a, b) + 1) if a % d == 0 and b % d == 0)


def is_prime(n):
    """Tell a prime by trying all divisors up to the root."""
    return n >= 2 and all(n % d for d in range(2, int(n ** 0.5) + 2) if d < n)


def factors(n):
    """Return the pairs of the primes and how often they divide n, by trying."""
    found = []
    d = 2
    while d * d <= n:
        k = 0
        while n % d == 0:
            n //= d
            k += 1
        if k:
            found.append((d, k))
        d += 1
    if n > 1:
        found.append((n, 1))
    return tuple(found)


def divisors(n):
    """Return all divisors of n, by trying."""
    return [d for d in range(1, n + 1) if n % d == 0]


def is_square(n):
    """Tell a square by walking."""
    r = 0
    while r * r < n:
        r += 1
    return r * r == n


def floor_root(n):
    """Return the root of n by halving."""
    low, high = 0, n + 1
    while high - low > 1:
        middle = (low + high) // 2
        if middle * middle <= n:
            low = middle
        else:
            high = middle
    return low


def sign(a, n):
    """Return (a / n) by its definition: squares modulo each prime factor."""
    if n == 0:
        return 1 if a in (1, -1) else 0
    result = -1 if n < 0 and a < 0 else 1
    for p, k in factors(abs(n)):
        if p == 2:
            part = 0 if a % 2 == 0 else 1 if a % 8 in (1, 7) else -1
        elif a % p == 0:
            part = 0
        else:
            part = 1 if any((x * x - a) % p == 0 for x in range(1, p)) else -1
        result *= part ** k
    return result


def disc(f):
    """Return b^2 - 4 a c."""
    return f[1] * f[1] - 4 * f[0] * f[2]


def at(f, x, y):
    """Return the value of a form."""
    return f[0] * x * x + f[1] * x * y + f[2] * y * y


def move(f, m):
    """Move a form: its values at three pairs tell the moved one."""
    (p, q), (r, s) = m
    a, c = at(f, p, r), at(f, q, s)
    return (a, at(f, p + q, r + s) - a - c, c)


def times(m, n):
    """Return the product of two matrices."""
    return tuple(tuple(sum(row[k] * n[k][j] for k in range(2)) for j in range(2)) for row in m)


def det(m):
    """Return the determinant of a matrix of two rows."""
    return m[0][0] * m[1][1] - m[0][1] * m[1][0]


def content(f):
    """Return the greatest common divisor of three integers."""
    return math.gcd(*f)


def is_discriminant(D):
    """Tell a discriminant by its definition."""
    return D % 4 in (0, 1) and not (D >= 0 and floor_root(D) ** 2 == D)


def reduced(D):
    """Return all reduced forms of D below 0 by the loop of point 4.4."""
    found = []
    a = 1
    while 3 * a * a <= -D:
        for b in range(1 - a, a + 1):
            if (b * b - D) % (4 * a) == 0:
                c = (b * b - D) // (4 * a)
                if c > a or (c == a and b >= 0):
                    found.append((a, b, c))
        a += 1
    return sorted(found)


def on_cycle(f):
    """Tell a form on a cycle by the conditions of point 5.1."""
    a, b, c = f
    s = floor_root(disc(f))
    return 1 <= b <= s and 2 * abs(a) + b >= s + 1 and 2 * abs(a) - b <= s


def step(f):
    """Return the form that the step leads to, and the turn, by trying all b'."""
    a, b, c = f
    s = floor_root(disc(f))
    size = abs(c)
    low, high = (1 - size, size) if size > s else (s + 1 - 2 * size, s)
    told = [x for x in range(low, high + 1) if (x + b) % (2 * size) == 0]
    assert len(told) == 1
    t = (b + told[0]) // (2 * c)
    return move(f, ((0, -1), (1, t))), t


def cycle(f):
    """Return the cycle of a form, as a list from it on."""
    found = [f]
    g, _ = step(f)
    while g != f:
        found.append(g)
        g, _ = step(g)
    return found


def cycles(D):
    """Return the cycles of all primitive forms of D above 0, each from its least form on."""
    s = floor_root(D)
    forms = []
    for b in range(1, s + 1):
        for a in range(-s, s + 1):
            if a and (b * b - D) % (4 * a) == 0:
                f = (a, b, (b * b - D) // (4 * a))
                if on_cycle(f) and content(f) == 1:
                    forms.append(f)
    found = {tuple(cycle(min(cycle(f)))) for f in forms}
    return sorted(found)


def fundamental(D):
    """Return (D0, f) by trying all f, the greatest one first."""
    for f in range(abs(D), 0, -1):
        if D % (f * f) == 0 and is_discriminant(D // (f * f)):
            return D // (f * f), f
    return None


def near(f):
    """Return a form that is reduced, or on a cycle, and equivalent to a form, in small steps."""
    if disc(f) > 0:
        while not on_cycle(f):
            f, _ = step(f)
        return f
    a, b, c = f
    while not (-a < b <= a < c or 0 <= b <= a == c):
        while b > a:
            a, b, c = a, b - 2 * a, a - b + c
        while b <= -a:
            a, b, c = a, b + 2 * a, a + b + c
        if a > c or (a == c and b < 0):
            a, b, c = c, -b, a
    return (a, b, c)


def told(f):
    """Return the told form of a form with small items."""
    g = near(f)
    return g if disc(f) < 0 else min(cycle(g))


def principal(D):
    """Return the principal form."""
    return (1, D % 2, (D % 2 - D) // 4)


def product(f, g):
    """Return the told form of the product of two classes, by forms whose first items have no common divisor."""
    D, a = disc(f), f[0]
    for x in range(40):
        for y in range(-40, 40):
            if math.gcd(x, y) == 1 and math.gcd(at(g, x, y), a) == 1:
                r, s = next((r, s) for r in range(-41, 42) for s in range(-41, 42) if x * s - r * y == 1)
                k, b, _ = move(g, ((x, r), (y, s)))
                B = f[1]
                while (B - b) % (2 * k):
                    B += 2 * a
                return told((a * k, B, (B * B - D) // (4 * a * k)))
    raise AssertionError("no value")


def primitive(D):
    """Return the told forms of all classes of D, ascending."""
    if D > 0:
        return [told[0] for told in cycles(D)]
    return [f for f in reduced(D) if content(f) == 1]


def signs(D):
    """Return the signs of D as point 6.6 tells them."""
    found = [l if l % 4 == 1 else -l for l, _ in factors(abs(D)) if l != 2]
    if D % 4 == 0:
        m = D // 4 % 8
        found += {3: [-4], 4: [-4], 7: [-4], 2: [8], 6: [-8], 0: [-4, 8]}.get(m, [])
    return tuple(sorted(found))


def genera(f, most):
    """Return the set of all genera that the values of a form at small pairs tell."""
    D = disc(f)
    values = {at(f, x, y) for x in range(-most, most + 1) for y in range(-most, most + 1)}
    return {tuple(sign(d, v) for d in signs(D)) for v in values if v > 0 and math.gcd(v, 2 * D) == 1}


def points(curve):
    """Return all points of a curve, by trying all pairs."""
    p, a, b = curve
    return ((),) + tuple((x, y) for x in range(p) for y in range(p) if (y * y - x ** 3 - a * x - b) % p == 0)


def curves(p):
    """Return all curves over a prime, by the condition of point 8.1."""
    return [(p, a, b) for a in range(p) for b in range(p) if (4 * a ** 3 + 27 * b ** 2) % p]


def added(curve, P, Q):
    """Return the sum of two points, told by the line through them."""
    p, a, _ = curve
    if () in (P, Q):
        return P or Q
    (x, y), (u, v) = P, Q
    if x == u and (y + v) % p == 0:
        return ()
    s = (v - y) * pow(u - x, -1, p) if x != u else (3 * x * x + a) * pow(2 * y, -1, p)
    w = (s * s - x - u) % p
    return (w, (s * (x - w) - y) % p)


def negated(curve, P):
    """Return the negative of a point."""
    return (P[0], -P[1] % curve[0]) if P else ()


def multiplied(curve, k, P):
    """Return a multiple of a point, for a small k from 0 on, one sum after the other."""
    T = ()
    for _ in range(k):
        T = added(curve, T, P)
    return T


def order(curve, P):
    """Return the order of a point, by walking."""
    k, T = 1, P
    while T:
        k, T = k + 1, added(curve, T, P)
    return k


def least_nonsquare(p):
    """Return the least integer from 2 on that is no square modulo a prime."""
    return next(d for d in range(2, p) if all((x * x - d) % p for x in range(p)))


def divisor_powers(k, n):
    """Return the sum of the powers d^k of the divisors of n."""
    return sum(d ** k for d in range(1, n + 1) if n % d == 0)


def series_product(f, g):
    """Return the product of two series of one length, item by item."""
    return tuple(sum(f[i] * g[n - i] for i in range(n + 1)) for n in range(len(f)))


def eisenstein(k, size):
    """Return the Eisenstein series of the weights 4 and 6, by divisors."""
    c = {4: 240, 6: -504}[k]
    return (1,) + tuple(c * divisor_powers(k - 1, n) for n in range(1, size))


def series_power(f, n):
    """Return the power of a series, one product after the other."""
    result = (1,) + (0,) * (len(f) - 1)
    for _ in range(n):
        result = series_product(result, f)
    return result


def taus(most):
    """Return tau(0) = 0, tau(1), .., by the product of all (1 - q^n)^24."""
    items = [1] + [0] * most
    for n in range(1, most + 1):
        for _ in range(24):
            for at in range(most, n - 1, -1):
                items[at] -= items[at - n]
    return [0] + items[:most]


def hurwitz(n):
    """Return 12 H(n), form by form."""
    if n == 0:
        return -1
    if n < 0 or n % 4 in (1, 2):
        return 0
    return sum(4 if a == b == c else 6 if a == c and b == 0 else 12 for a, b, c in reduced(-n))


def trace_number(k, t, n):
    """Return P_k(t, n), the item at k - 2 of the series 1 / (1 - t x + n x^2)."""
    items = [1]
    while len(items) < k - 1:
        items.append(t * items[-1] - (n * items[-2] if len(items) > 1 else 0))
    return items[k - 2]


def determinant(rows):
    """Return the determinant, by the items of the first row."""
    if not rows:
        return 1
    return sum((-1) ** j * rows[0][j] * determinant([row[:j] + row[j + 1:] for row in rows[1:]])
               for j in range(len(rows)) if rows[0][j])


def matrix_times(one, two):
    """Return the product of two square matrices of one size."""
    size = range(len(one))
    return tuple(tuple(sum(one[i][k] * two[k][j] for k in size) for j in size) for i in size)


def code_words(code, n):
    """Return the set of all words of a code, sum by sum."""
    words = {(0,) * n}
    for row in code:
        words |= {tuple((a + b) % 2 for a, b in zip(word, row)) for word in words}
    return words
