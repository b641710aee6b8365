"""Classes of forms: products, powers, orders, class groups and relations."""

from classledger.compose import check_pair, composed_form
from classledger.cycles import all_cycles, check_walked, lead, walk
from classledger.definite import reduced_forms, reduction
from classledger.errors import Malformed, Refused
from classledger.forms import (
    check_discriminant, check_items, is_primitive, split_discriminant, told_content, told_discriminant,
    told_principal)
from classledger.primes import primes_to
from classledger.rows import rest, scaled
from classledger.same import told_by_steps
from classledger.whole import is_integer, kronecker, root

# Orders of classes are refused for discriminants below the negative of it.
LARGEST_ORDERED = 1000000

# Lists of classes and class groups are refused for discriminants beyond it, of either sign.
LARGEST_LISTED = 100000


def check_primitive(f):
    """Raise Malformed if the value is no primitive form."""
    if not is_primitive(f):
        raise Malformed("not primitive")


def check_listed(D):
    """Refuse a discriminant whose classes are too many to be listed."""
    if abs(D) > LARGEST_LISTED:
        raise Refused("large")


def near_form(f):
    """Return a form that is reduced or on a cycle and equivalent to f, for items of any size."""
    if told_discriminant(f) < 0:
        return reduction(f)[0]
    return lead(f)[0]


def _name(f):
    """Return the told form of the class of a form with items of any size."""
    g, _ = told_by_steps(f)
    check_items(g)
    return g


def class_product(f, g):
    """Return the told form of the product of the classes of two forms."""
    check_pair(f, g)
    check_walked(told_discriminant(f))
    return _name(composed_form(f, g))


def class_power(f, k):
    """Return the told form of a power of the class of a form."""
    check_primitive(f)
    if not is_integer(k):
        raise Malformed("no exponent")
    check_walked(told_discriminant(f))
    a, b, c = f
    base = near_form(f) if k > 0 else near_form((a, -b, c))
    result = told_principal(told_discriminant(f))
    k = abs(k)
    while k:
        if k & 1:
            result = near_form(composed_form(result, base))
        k >>= 1
        if k:
            base = near_form(composed_form(base, base))
    return _name(result)


def class_order(f):
    """Return the order of the class of a form."""
    check_primitive(f)
    D = told_discriminant(f)
    check_walked(D)
    if D < -LARGEST_ORDERED:
        raise Refused("large")
    unit = near_form(told_principal(D))
    units = {unit: True}
    if D > 0:
        units = {g: True for g in walk(unit)[0]}
    base = power = near_form(f)
    order = 1
    while power not in units:
        power = near_form(composed_form(power, base))
        order += 1
    return order


def class_list(D):
    """Return the ascending tuple of the told forms of all classes of D."""
    check_discriminant(D)
    check_listed(D)
    if D > 0:
        return tuple([cycle[0] for cycle in all_cycles(D)])
    return tuple([f for f in reduced_forms(D) if told_content(f) == 1])


def class_names(D):
    """Return a dict from all primitive forms of D that are reduced or on a cycle to their told forms."""
    if D < 0:
        return {f: f for f in class_list(D)}
    return {f: cycle[0] for cycle in all_cycles(D) for f in cycle}


def named_product(names, f, g):
    """Return the told form of the product of the classes of two forms, out of the names of D."""
    return names[near_form(composed_form(f, g))]


def _start(names, D):
    """Return the dict from the told form of the principal class to the row of no exponents."""
    return {names[near_form(told_principal(D))]: ()}


def _with_powers(names, known, f, order):
    """Return known with the powers of f to an order: each told form with its row, f's exponent first."""
    found = {}
    layer = known
    for x in range(order):
        if x:
            layer = {named_product(names, g, f): layer[g] for g in layer}
        for g in layer:
            found[g] = (x,) + layer[g]
    return found


def _extended(names, known, space, f):
    """Return known and the reduced table of relations of its rows, with the class of f as the first one."""
    power = f
    order = 1
    while power not in known:
        power = named_product(names, power, f)
        order += 1
    first = (order,) + rest(space, scaled(known[power], -1))
    wider = (first,) + tuple([(0,) + row for row in space])
    return _with_powers(names, known, f, order), wider


def class_group(D):
    """Return the tuple of the orders of the rounds of the class group, and that of their generators."""
    classes = class_list(D)
    names = class_names(D)
    known, space = _start(names, D), ()
    for f in classes:
        if f not in known:
            known, space = _extended(names, known, space, f)
    told = {known[f]: f for f in known}
    orders = []
    generators = []
    for order, row in rounds_of(space):
        if order > 1:
            orders.append(order)
            generators.append(told[rest(space, row)])
    return tuple(orders), tuple(generators)


def rounds_of(space):
    """Return the pairs of a divisor of a square table and a row that has it as order modulo the table."""
    table = [list(row) for row in space]
    size = len(table)
    # The rows of back are the new unit rows, told in the old ones.
    back = [[1 if i == at else 0 for i in range(size)] for at in range(size)]
    for k in range(size):
        _clear(table, back, k)
    return [(abs(table[k][k]), tuple(back[k])) for k in range(size)]


def _clear(table, back, k):
    """Make row and column k of a table 0 behind the index k, its item a divisor of all behind it."""
    odd = k
    while odd is not None:
        if odd != k:
            table[k] = [a + b for a, b in zip(table[k], table[odd])]
        _to_corner(table, back, k)
        while not _is_alone(table, k):
            _reduce_rows(table, k)
            _reduce_columns(table, back, k)
            _to_corner(table, back, k)
        odd = _odd_row(table, k)


def _is_alone(table, k):
    """Return True if row and column k are 0 behind the index k."""
    return not any(table[k][k + 1:]) and not any([row[k] for row in table[k + 1:]])


def _odd_row(table, k):
    """Return the index of a row behind k with an item that the item at k, k does not divide, or None."""
    for i in range(k + 1, len(table)):
        if any([item % table[k][k] for item in table[i]]):
            return i
    return None


def _to_corner(table, back, k):
    """Exchange rows and columns from k on: the item of the least amount other than 0 comes to k, k."""
    size = len(table)
    places = [(abs(table[i][j]), i, j) for i in range(k, size) for j in range(k, size) if table[i][j]]
    _, i, j = min(places)
    table[k], table[i] = table[i], table[k]
    back[k], back[j] = back[j], back[k]
    for at in range(size):
        row = table[at]
        row[k], row[j] = row[j], row[k]


def _reduce_rows(table, k):
    """Take multiples of row k from the rows behind it, so that column k gets small."""
    top = table[k]
    for i in range(k + 1, len(table)):
        times = table[i][k] // top[k]
        table[i] = [b - times * a for a, b in zip(top, table[i])]


def _reduce_columns(table, back, k):
    """Take multiples of column k from the columns behind it, so that row k gets small."""
    size = len(table)
    for j in range(k + 1, size):
        times = table[k][j] // table[k][k]
        for i in range(size):
            table[i][j] -= times * table[i][k]
        back[k] = [a + times * b for a, b in zip(back[k], back[j])]


def class_row(group, f):
    """Return the row of exponents of the class of f, for orders and generators of its class group."""
    check_primitive(f)
    D = told_discriminant(f)
    check_listed(D)
    orders, generators = group
    names = class_names(D)
    known = _start(names, D)
    for order, generator in reversed(list(zip(orders, generators))):
        known = _with_powers(names, known, generator, order)
    return known[names[near_form(f)]]


def _check_fundamental(D):
    """Check a fundamental discriminant whose classes can be listed."""
    check_discriminant(D)
    check_listed(D)
    if split_discriminant(D)[1] != 1:
        raise Refused("fundamental")


def prime_forms(D):
    """Return the tuple of the prime forms of a fundamental discriminant."""
    _check_fundamental(D)
    forms = []
    most = root(-D // 3, 2) if D < 0 else root(D // 5, 2)
    if D > 0:
        forms.append((-1, D % 2, (D - D % 2) // 4))
    for l in primes_to(most):
        if kronecker(D, l) != -1:
            forms.append(_prime_form(D, l))
    return tuple(forms)


def _prime_form(D, l):
    """Return the form of D with the first item l and the least middle item from 0 on."""
    b = D % 2
    while (b * b - D) % (4 * l):
        b += 2
    return (l, b, (b * b - D) // (4 * l))


def class_relations(D):
    """Return the reduced table of the relations of the prime forms of a fundamental discriminant."""
    forms = prime_forms(D)
    names = class_names(D)
    known, space = _start(names, D), ()
    for f in reversed(forms):
        known, space = _extended(names, known, space, names[near_form(f)])
    return space
