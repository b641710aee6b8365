"""The judges of the papers of forms."""

from math import gcd

from classledger.compose import composition
from classledger.cycles import fits, step_from, with_turn
from classledger.definite import told_reduced
from classledger.forms import (
    UNIT_MATRIX, discriminant, is_form, is_matrix, is_primitive, told_content, told_discriminant, told_moved,
    told_principal, told_value)
from classledger.primechecker import is_paper
from classledger.rows import is_row
from classledger.whole import is_integer, kronecker, root


def takes_same(f, g, paper):
    """Return True if the paper shows that two forms of one D are equivalent, or that they are not."""
    if is_paper(paper, "same", 2):
        return is_matrix(paper[1]) and told_moved(f, paper[1]) == g
    return _shows_apart(f, g, paper)


def _shows_apart(f, g, paper):
    """Return True if the paper shows that two forms of one D are not equivalent."""
    if told_discriminant(f) < 0:
        return is_paper(paper, "apart", 3) and _are_unlike(f, g, paper[1:])
    return is_paper(paper, "apart", 4) and _are_on_two(f, g, paper[1:])


def _are_unlike(f, g, matrices):
    """Return True if two matrices move two definite forms to unlike reduced ones."""
    m, n = matrices
    if not is_matrix(m) or not is_matrix(n):
        return False
    one, two = told_moved(f, m), told_moved(g, n)
    return told_reduced(one) and told_reduced(two) and one != two


def _are_on_two(f, g, items):
    """Return True if a matrix and turns tell the cycle of f, and a matrix moves g to another one."""
    m, turns, n = items
    forms = _told_cycle(f, m, turns)
    if forms is None or not is_matrix(n):
        return False
    moved = told_moved(g, n)
    return fits(moved, root(told_discriminant(g), 2)) and moved not in forms


def _told_cycle(f, m, turns):
    """Return the list of the forms of the cycle that f is moved to, None if these are not all its turns."""
    if not is_matrix(m) or not isinstance(turns, tuple) or not turns or not is_row(turns, len(turns)):
        return None
    s = root(told_discriminant(f), 2)
    start = told_moved(f, m)
    if not fits(start, s):
        return None
    forms = []
    now = start
    for at, told in enumerate(turns):
        forms.append(now)
        now, turn = step_from(now, s)
        if turn != told or (now == start) != (at == len(turns) - 1):
            return None
    return forms


def takes_value(f, n, paper):
    """Return True if the paper shows that f has the value n at a pair without common divisor, or has not."""
    if is_paper(paper, "value", 3):
        x, y = paper[1:]
        return is_row((x, y), 2) and gcd(x, y) == 1 and told_value(f, x, y) == n
    return is_paper(paper, "none", 2) and _bars_roots(f, n, paper[1])


def _bars_roots(f, n, rows):
    """Return True if the rows show for each root of n that it is not told."""
    D = told_discriminant(f)
    modulus = 4 * abs(n)
    square = D % modulus
    roots = [b for b in range(2 * abs(n)) if (b * b - square) % modulus == 0]
    if not isinstance(rows, tuple) or len(rows) != len(roots):
        return False
    for b, row in zip(roots, rows):
        if not isinstance(row, tuple) or len(row) != 2 or not is_integer(row[0]) or row[0] != b:
            return False
        if not _shows_apart(f, (n, b, (b * b - D) // (4 * n)), row[1]):
            return False
    return True


def takes_unit(D, paper):
    """Return True if the paper tells the least unit of D."""
    if not is_paper(paper, "unit", 5) or not is_row(paper[1:3], 2):
        return False
    _, t, u, m, turns = paper
    forms = _told_cycle(told_principal(D), m, turns)
    if forms is None or t < 1 or u < 1:
        return False
    product = UNIT_MATRIX
    for turn in turns:
        product = with_turn(product, turn)
    (p, q), (r, s) = product
    a, b, c = forms[0]
    told = (t - b * u, -2 * c * u, 2 * a * u, t + b * u)
    doubled = (2 * p, 2 * q, 2 * r, 2 * s)
    return told in (doubled, (-2 * p, -2 * q, -2 * r, -2 * s))


def takes_minus(D, paper):
    """Return True if the paper shows that t^2 - D u^2 = -4 has a solution, or that it has none."""
    if is_paper(paper, "minus", 3):
        t, u = paper[1:]
        return is_row((t, u), 2) and t >= 1 and u >= 1 and t * t - D * u * u == -4
    if not is_paper(paper, "none", 3):
        return False
    forms = _told_cycle(told_principal(D), paper[1], paper[2])
    return forms is not None and -1 not in [f[0] for f in forms]


def takes_composed(f, g, h, paper):
    """Return True if the paper shows that the class of h is the product of those of f and g."""
    return is_paper(paper, "composed", 4) and _composes(f, g, h, paper[1:])


def _composes(f, g, h, items):
    """Return True if two rows compose f and g, and a matrix moves the composition to h."""
    p, q, m = items
    if not is_row(p, 4) or not is_row(q, 4) or not is_matrix(m):
        return False
    one, two, product = composition(p, q)
    return one == f and two == g and told_moved(product, m) == h


def takes_classes(D, paper):
    """Return True if the paper tells the class group of D."""
    if not is_paper(paper, "classes", 5):
        return False
    _, orders, generators, rows, wraps = paper
    if not _are_orders(orders) or not _are_generators(D, generators, len(orders)):
        return False
    if not _are_triples(rows, _product_to(orders, rows)) or not _are_triples(wraps, len(orders)):
        return False
    forms = [row[0] for row in rows]
    if not all([is_row(f, 3) for f in forms]) or sorted(forms) != _told_classes(D):
        return False
    return _are_steps(D, orders, generators, rows) and _are_wraps(orders, generators, forms, wraps)


def _are_orders(orders):
    """Return True if the value is a tuple of integers from 2 on, each of which divides the next one."""
    if not isinstance(orders, tuple) or not is_row(orders, len(orders)) or not all([order > 1 for order in orders]):
        return False
    return not any([after % before for before, after in zip(orders, orders[1:])])


def _are_generators(D, generators, many):
    """Return True if the value is a tuple of so many primitive forms of D."""
    if not isinstance(generators, tuple) or len(generators) != many or not all([is_form(f) for f in generators]):
        return False
    return all([discriminant(f) == D and is_primitive(f) for f in generators])


def _product_to(orders, rows):
    """Return the product of the orders, 0 if the value has not so many rows."""
    if not isinstance(rows, tuple):
        return 0
    product = 1
    for order in orders:
        product *= order
        if product > len(rows):
            return 0
    return product


def _are_triples(rows, many):
    """Return True if the value is a tuple of so many triples."""
    if not isinstance(rows, tuple) or len(rows) != many:
        return False
    return all([isinstance(row, tuple) and len(row) == 3 for row in rows])


def strides_of(orders):
    """Return for each order how many rows further the row with one more of its exponent stands."""
    strides = []
    stride = 1
    for order in reversed(orders):
        strides.append(stride)
        stride *= order
    return strides[::-1]


def last_exponent(strides, at):
    """Return the index of the last exponent other than 0 of the row that stands at a place from 1 on."""
    return min([k for k, stride in enumerate(strides) if at % stride == 0])


def _are_steps(D, orders, generators, rows):
    """Return True if each triple leads to its form."""
    form, step, m = rows[0]
    if step != () or not is_matrix(m) or told_moved(told_principal(D), m) != form:
        return False
    strides = strides_of(orders)
    for at in range(1, len(rows)):
        form, step, m = rows[at]
        last = last_exponent(strides, at)
        if not isinstance(step, tuple) or len(step) != 2:
            return False
        if not _composes(rows[at - strides[last]][0], generators[last], form, step + (m,)):
            return False
    return True


def _are_wraps(orders, generators, forms, wraps):
    """Return True if each triple leads from the last power of a generator to the first form."""
    strides = strides_of(orders)
    for k, wrap in enumerate(wraps):
        if not _composes(forms[(orders[k] - 1) * strides[k]], generators[k], forms[0], wrap):
            return False
    return True


def _told_classes(D):
    """Return the ascending list of the primitive reduced forms of D, or the least forms of its cycles."""
    return sorted(_counted_reduced(D) if D < 0 else _counted_cycles(D))


def _counted_reduced(D):
    """Return the list of the primitive reduced forms of D, by the loop of point 4.4."""
    found = []
    a = 1
    while 3 * a * a <= -D:
        for b in range(1 - a, a + 1):
            f = (a, b, (b * b - D) // (4 * a))
            if (b * b - D) % (4 * a) == 0 and told_reduced(f) and told_content(f) == 1:
                found.append(f)
        a += 1
    return found


def _counted_cycles(D):
    """Return the list of the least forms of the cycles of primitive forms of D, by trying and steps."""
    s = root(D, 2)
    met = set()
    found = []
    for b in range(1, s + 1):
        for a in range(-s, s + 1):
            if a == 0 or (b * b - D) % (4 * a):
                continue
            f = (a, b, (b * b - D) // (4 * a))
            if not fits(f, s) or told_content(f) != 1 or f in met:
                continue
            least = now = f
            while now not in met:
                met.add(now)
                least = min(least, now)
                now, _ = step_from(now, s)
            found.append(least)
    return found


def takes_square(f, paper):
    """Return True if the paper shows that the class of f is a square, or that it is none."""
    D = told_discriminant(f)
    if is_paper(paper, "root", 5):
        g = paper[1]
        if not is_form(g) or told_discriminant(g) != D or told_content(g) != 1:
            return False
        return _composes(g, g, f, paper[2:])
    if not is_paper(paper, "sign", 4) or not is_row(paper[1:], 3):
        return False
    _, x, y, d = paper
    v = told_value(f, x, y)
    return v > 0 and gcd(v, 2 * D) == 1 and d in _told_signs(D) and kronecker(d, v) == -1


def _told_signs(D):
    """Return the list of the signs of D, by trial."""
    signs = []
    left = abs(D)
    while left % 2 == 0:
        left //= 2
    l = 3
    while left > 1:
        if l * l > left:
            l = left
        if left % l == 0:
            signs.append(l if l % 4 == 1 else -l)
        while left % l == 0:
            left //= l
        l += 2
    if D % 4 == 0:
        m = D // 4 % 8
        if m in (0, 3, 4, 7):
            signs.append(-4)
        if m in (0, 2):
            signs.append(8)
        if m == 6:
            signs.append(-8)
    return signs
