"""Points 15.1, 15.12 and 15.13: the papers of series and traces, their makers and judges."""

import itertools
import random
import unittest

from classledger.hecke import hecke_trace
from classledger.level import generators
from classledger.serieschecker import takes_goes, takes_trace
from classledger.seriespapers import goes_paper, trace_paper
from tests import slow
from tests.papers import NO_PAPERS, Judged
from tests.test_forms import malformed
from tests.test_level import NO_WEIGHTS, cusps
from tests.test_primes import refused
from tests.test_series import NO_SERIES
from tests.test_traces import least_sum

NO_INDEXES = slow.ODD_VALUES + (0, -1, 401, 10 ** 30, (2,), "2")


def combined(row, k, size):
    """Return the sum of the multiples of g_0, .., g_d."""
    series = generators(k, size)
    return tuple(sum(c * g[at] for c, g in zip(row, series)) for at in range(size))


def changed(row, at, by):
    """Return a row with one item changed."""
    return row[:at] + (row[at] + by,) + row[at + 1:]


class Goes(Judged):
    def test_papers_of_the_maker(self):
        chance = random.Random(1512)
        for k in range(4, 101, 2):
            d = cusps(k)
            for size in (d + 1, d + 2, 30):
                row = tuple(chance.randrange(-99, 100) for _ in range(d + 1))
                f = combined(row, k, size)
                self.assertEqual(goes_paper(f, k), ("goes", row))
                self.takes(takes_goes, f, k, ("goes", row))
                for n in range(d + 1, size):
                    other = changed(f, n, chance.choice((-1, 1, 10 ** 30)))
                    self.assertEqual(goes_paper(other, k), ("bar", row, n))
                    self.takes(takes_goes, other, k, ("bar", row, n))
                    self.bars(takes_goes, other, k, ("goes", row))
                    self.bars(takes_goes, f, k, ("bar", row, n))

    def test_each_condition(self):
        for k in (4, 12, 24, 26, 36):
            d = cusps(k)
            row = tuple(range(3, d + 4))
            f = combined(row, k, 12)
            for at in range(d + 1):
                self.bars(takes_goes, f, k, ("goes", changed(row, at, 1)))
                # Unlike at a later place, but at an earlier one, too.
                other = changed(f, 9, 5)
                self.bars(takes_goes, other, k, ("bar", changed(row, at, 1), 9))
                self.bars(takes_goes, f, k, ("bar", changed(row, at, 1), 9))
            other = changed(changed(f, 9, 5), 11, -2)
            # Each later place at which they are unlike serves, not the first one alone.
            for n in range(-13, 15):
                self.assertIs(takes_goes(other, k, ("bar", row, n)), n in (9, 11))
            self.bars(takes_goes, other, k, ("bar", row + (0,), 9))
            self.bars(takes_goes, other, k, ("bar", row[:-1], 9))
            self.bars(takes_goes, other, k, ("bar", row, 10 ** 30))
            self.bars(takes_goes, other, k, ("goes", row))
            self.bars(takes_goes, f, k, ("goes", row + (0,)))
            self.bars(takes_goes, f, k, ("goes", row[:-1]))
            self.check_bent(takes_goes, f, k, ("goes", row))
            self.check_bent(takes_goes, other, k, ("bar", row, 9))

    def test_other_weights(self):
        f = combined((1, 2), 12, 20)
        for k in range(4, 101, 2):
            self.assertIs(takes_goes(f, k, ("goes", (1, 2))), k == 12)
            self.assertIs(takes_goes(f, k, goes_paper(f, 12)), k == 12)
        self.bars(takes_goes, changed(f, 3, 1), 12, ("goes", (1, 2)))
        for k in (16, 24, 30):
            self.bars(takes_goes, f, k, ("goes", goes_paper(f, k)[1]))

    def test_exactly_one_kind(self):
        for k in (4, 6, 12, 24):
            d = cusps(k)
            for f in itertools.product((0, 1, 2), repeat=d + 2):
                paper = goes_paper(f, k)
                self.takes(takes_goes, f, k, paper)
                row = paper[1]
                self.assertEqual([takes_goes(f, k, ("goes", row)), takes_goes(f, k, ("bar", row, d + 1))],
                                 [paper[0] == "goes", paper[0] == "bar"])

    def test_great(self):
        f = combined((10 ** 1000, -7), 12, 400)
        self.takes(takes_goes, f, 12, ("goes", (10 ** 1000, -7)))
        self.takes(takes_goes, changed(f, 399, 1), 12, goes_paper(changed(f, 399, 1), 12))
        self.assertEqual(goes_paper(changed(f, 399, 1), 12), ("bar", (10 ** 1000, -7), 399))

    def test_values(self):
        for value in NO_PAPERS:
            for f, k in (((1, 240, 2160), 4), ((1, 240, 2161), 4), ((0, 1, -24), 12), ((1,), 4)):
                self.bars(takes_goes, f, k, value)

    def test_errors(self):
        for value in NO_SERIES:
            malformed(self, goes_paper, value, 4)
            malformed(self, goes_paper, value, None)
        for value in NO_WEIGHTS:
            malformed(self, goes_paper, (1, 240), value)
            malformed(self, goes_paper, (1,), value)
        for k in (12, 24, 100):
            d = cusps(k)
            for size in range(1, d + 1):
                refused(self, "short", goes_paper, (1,) * size, k)
            self.assertEqual(goes_paper((0,) * (d + 1), k), ("goes", (0,) * (d + 1)))


def slow_paper(k, n, reduced=slow.reduced):
    """Return the paper of point 15.13, with forms counted and the value reckoned in the test."""
    most = slow.floor_root(4 * n)
    rows = tuple((t, tuple(reduced(t * t - 4 * n)) if t * t < 4 * n else ()) for t in range(-most, most + 1))
    total = sum(slow.trace_number(k, t, n) * slow.hurwitz(4 * n - t * t) for t, _ in rows) + 12 * least_sum(k, n)
    assert total % 24 == 0
    return ("trace", -total // 24, rows)


class Traces(Judged):
    def test_papers_of_the_maker(self):
        for k in (4, 12, 14, 24, 26, 60, 100):
            for n in list(range(1, 20)) + [25, 36]:
                paper = slow_paper(k, n)
                self.assertEqual(trace_paper(k, n), paper)
                self.takes(takes_trace, k, n, paper)
                if n < 4:
                    self.assertEqual(paper[1], hecke_trace(k, n))
        for k, n in ((12, 400), (24, 399), (100, 400), (4, 400)):
            self.takes(takes_trace, k, n, trace_paper(k, n))

    def test_each_condition(self):
        for k, n in ((12, 1), (12, 2), (24, 3), (26, 4), (12, 6), (16, 9)):
            _, value, rows = trace_paper(k, n)
            for other in (value + 1, -value or 1, 24 * value or 24, value - 12, str(value), (value,)):
                self.bars(takes_trace, k, n, ("trace", other, rows))
            for at in range(len(rows)):
                t, forms = rows[at]
                others = [(t + 1, forms), (-t or 1, forms), (t,), (t, forms, ()), (t, forms + ((1, 1, 6),)), [t, forms],
                          (t, list(forms)), (t, forms + ((1, 0, 1),)), (t, None), forms]
                for place, (a, b, c) in enumerate(forms):
                    before, after = forms[:place], forms[place + 1:]
                    # Left out, twice, turned, moved, with items of another kind.
                    others += [(t, before + after), (t, before + ((a, b, c),) * 2 + after),
                               (t, before + ((a, b + 2 * a, a + b + c),) + after), (t, before + ((c, -b, a + 1),) + after),
                               (t, before + ([a, b, c],) + after), (t, before + ((a, b),) + after)]
                    if b:
                        others.append((t, before + ((a, -b, c),) + after))
                if len(forms) > 1:
                    others.append((t, forms[::-1]))
                for wrong in others:
                    self.bars(takes_trace, k, n, ("trace", value, rows[:at] + (wrong,) + rows[at + 1:]))
                self.bars(takes_trace, k, n, ("trace", value, rows[:at] + rows[at + 1:]))
                self.bars(takes_trace, k, n, ("trace", value, rows[:at + 1] + rows[at:]))
            self.bars(takes_trace, k, n, ("trace", value, rows[::-1]))
            self.bars(takes_trace, k, n, ("trace", value, ()))
            self.bars(takes_trace, k, n, ("trace", value, rows[len(rows) // 2:]))
            self.check_bent(takes_trace, k, n, ("trace", value, rows))

    def test_other_weights_and_indexes(self):
        for k, n in ((12, 1), (12, 2), (24, 2), (16, 5)):
            paper = trace_paper(k, n)
            for other in range(4, 40, 2):
                self.assertIs(takes_trace(other, n, paper), hecke_trace(other, n) == paper[1])
            for other in range(1, 12):
                self.assertIs(takes_trace(k, other, paper), other == n)

    def test_values(self):
        for value in NO_PAPERS:
            for k, n in ((4, 1), (12, 2), (12, 1)):
                self.bars(takes_trace, k, n, value)

    def test_errors(self):
        for value in NO_WEIGHTS + (2,):
            malformed(self, trace_paper, value, 1)
            malformed(self, trace_paper, value, None)
        for value in NO_INDEXES:
            malformed(self, trace_paper, 12, value)


if __name__ == "__main__":
    unittest.main()
