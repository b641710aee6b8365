"""The conditions of the papers of points 2.5 and 2.8, by loops of their own."""

import itertools
import math
import unittest

from tests import slow


def wrong_prime(n, paper):
    """Return what is wrong with a paper that n is a prime, None if nothing is."""
    if type(paper) is not tuple or not paper:
        return "no paper"
    if paper == ("small",):
        return None if n <= 10 ** 6 and slow.is_prime(n) else "not small"
    if paper[0] != "powers" or len(paper) != 2 or type(paper[1]) is not tuple:
        return "no kind"
    product = 1
    before = 0
    for row in paper[1]:
        if type(row) is not tuple or len(row) != 3:
            return "no triple"
        q, a, below = row
        if type(q) is not int or type(a) is not int or q <= before or (n - 1) % q:
            return "no q"
        wrong = wrong_prime(q, below)
        if wrong:
            return wrong
        if pow(a, n - 1, n) != 1 or math.gcd(pow(a, (n - 1) // q, n) - 1, n) != 1:
            return "no a"
        while (n - 1) % (product * q) == 0:
            product *= q
        before = q
    return None if product * product > n else "too few"


def wrong_factors(n, paper):
    """Return what is wrong with a paper of the factors of n, None if nothing is."""
    if type(paper) is not tuple or len(paper) != 2 or paper[0] != "factors" or type(paper[1]) is not tuple:
        return "no paper"
    product = 1
    before = 0
    for row in paper[1]:
        if type(row) is not tuple or len(row) != 3:
            return "no triple"
        p, k, below = row
        if type(p) is not int or type(k) is not int or p <= before or k < 1:
            return "no row"
        wrong = wrong_prime(p, below)
        if wrong:
            return wrong
        product *= p ** k
        before = p
    return None if product == n else "no product"


def bends(value):
    """Yield the values that are bent at one place: no paper that holds stays one."""
    yield None
    if type(value) is tuple:
        yield 7
        yield list(value)
        yield value + (None,)
        yield value + ((),)
        for at, item in enumerate(value):
            for bent in bends(item):
                yield value[:at] + (bent,) + value[at + 1:]
    elif type(value) is int:
        yield str(value)
        yield (value,)
        if value in (0, 1):
            yield value == 1
    else:
        yield value + "s"
        yield value.upper()
        yield (value,)


def shorter(value):
    """Yield the nested tuples with one item less at one place."""
    if type(value) is tuple:
        for at, item in enumerate(value):
            yield value[:at] + value[at + 1:]
            for bent in shorter(item):
                yield value[:at] + (bent,) + value[at + 1:]


class Other:
    """An object that is equal to nothing of the papers."""


# Values that are no paper of any kind.
NO_PAPERS = (
    None, True, False, 0, 1, -1, 10 ** 500, "", "small", "same", "none", (), [], [()], ((),), (None,), (True,), (1,),
    ("",), ((), ()), ("small", 1), ["small"], ("powers",), ("powers", None), ("powers", 7), ("powers", ()),
    ("powers", [()]), ("powers", (None,)), ("powers", ((2, 2),)), ("curve",), ("curve", 1, 1, 1, 1, None),
    ("curve",) + (None,) * 5, ("factor",), ("factor", None), ("factor", True), ("factor", (2,)), ("witness",),
    ("witness", None), ("witness", "2"), ("factors",), ("factors", None), ("factors", 12), ("factors", (None,)),
    ("factors", [(2, 2, ("small",))]), ("squares",), ("squares", None), ("squares", None, None),
    ("squares", 1), ("squares", "1", "1"), ("squares", (1, 1)), ("none",), ("none", None), ("none", 1, 2),
    ("none", None, None), ("none", None, None, None), ("none",) + (None,) * 6, ("same",), ("same", None),
    ("same", 1), ("same", ()), ("same", (1, 0)), ("same", ((), ())), ("same", (None, None)), ("apart",),
    ("apart", None, None), ("apart", (), (), ()), ("apart", 1, 2, 3), ("apart", ((1, 0), (0, 1))),
    ("apart", ((1, 0), (0, 1)), None, ((1, 0), (0, 1))), ("apart", ((1, 0), (0, 1)), (None,), ((1, 0), (0, 1))),
    ("value",), ("value", None, None), ("value", (), ()), ("unit",), ("unit",) + (None,) * 4, ("unit", 1, 1, (), ()),
    ("minus",), ("minus", None, None), ("composed",), ("composed", None, None, None), ("composed", (), (), ()),
    ("classes",), ("classes",) + (None,) * 4, ("classes", (), (), (), ()), ("classes", (2,), (), (), ()),
    ("classes", (), (), (None,), ()), ("classes", (), (), ((None, None, None),), ()), ("root",),
    ("root",) + (None,) * 4, ("sign",), ("sign", None, None, None), ("order",), ("order", None, None),
    ("order", 1, None), ("order", 1, [2]), ("number",), ("number", None, None), ("number", (), ()),
    ("number", (None,) * 4, (None,) * 4), ("log",), ("log", None), ("log", -1), ("log", True), ("zero", 1), ["zero"],
    ("unlike", ()), ("power", None), ("goes",), ("goes", None), ("goes", 1), ("goes", ()), ("goes", ("1",)),
    ("bar",), ("bar", None, None), ("bar", (), 0), ("trace",), ("trace", None, None), ("trace", 1, ()),
    ("trace", 1, (None,)), ("trace", -24, [()]), slow.nested(60), (slow.nested(59), 1), ValueError("paper"), Other(),
    (Other(), Other()), ("same", Other()), (Other(),), b"small", {"small": 1}, 1.5,
)


class Judged(unittest.TestCase):
    """Tests of judges: what they take, and what they do not."""

    def takes(self, judge, *arguments):
        self.assertIs(judge(*arguments), True, (judge.__name__, arguments))

    def bars(self, judge, *arguments):
        self.assertIs(judge(*arguments), False, (judge.__name__, arguments))

    def check_bent(self, judge, *arguments):
        """Bend a paper that holds at each place: it holds no more."""
        *told, paper = arguments
        self.takes(judge, *arguments)
        for bent in itertools.chain(bends(paper), shorter(paper)):
            self.bars(judge, *told, bent)

    def check_values(self, judge, *arguments):
        """Try all values that are no paper."""
        for value in NO_PAPERS:
            self.bars(judge, *arguments, value)
