"""Points 14.1 to 14.3: codes, their reduced tables and weights, and the named codes."""

import itertools
import random
import unittest

from classledger.codes import (
    code_of, golay_code, is_code, is_doubly_even, is_self_dual, pair_code, small_code, sum_of_codes, weights)
from tests import slow
from tests.test_forms import malformed
from tests.test_primes import refused

NO_CODE_LENGTHS = (None, True, False, 0, -1, 25, 10 ** 30, "8", (8,), [8], slow.nested(60))

# Values that are no reduced table of a code of the length 3.
NO_CODES = (
    None, True, 1, "100", [], [(1, 0, 0)], ([1, 0, 0],), ((1, 0),), ((1, 0, 0, 0),), ((),), (1, 0, 0), ((0, 0, 0),),
    ((1, 0, 2),), ((1, 0, -1),), ((True, False, False),), ((1, 0, False),), ((1, 0, None),), ((1, 0, "1"),),
    ((0, 1, 0), (1, 0, 0)), ((1, 1, 0), (0, 1, 0)), ((1, 0, 0), (1, 1, 0)), ((1, 0, 1), (0, 1, 0), (0, 0, 1)),
    ((1, 0, 0), (1, 0, 0)), ((1, 0, 0), (0, 0, 0)), ((1, 0, 0), None), ((1, 0, 0), (0, 1)), slow.nested(60),
    ((1, 0, 0), (0, 1, 0), (0, 0, 1), (0, 0, 0)))


def random_words(chance, n, many):
    """Return some words of the length n."""
    return [tuple(chance.randrange(2) for _ in range(n)) for _ in range(many)]


def counted(words, n):
    """Return the numbers of the words of each weight."""
    return tuple(sum(1 for word in words if sum(word) == w) for w in range(n + 1))


def is_reduced_table(table):
    """Tell a reduced table by the words of point 14.1."""
    firsts = []
    for word in table:
        if 1 not in word:
            return False
        firsts.append(word.index(1))
    if firsts != sorted(set(firsts)):
        return False
    return all(word[at] == 0 for at in firsts for word in table if word.index(1) != at)


class Tables(unittest.TestCase):
    def test_each_code_has_one(self):
        for n in (1, 2, 3):
            words = list(itertools.product((0, 1), repeat=n))
            tables = [table for many in range(n + 1) for table in itertools.permutations(words, many)]
            told = [table for table in tables if is_code(table, n)]
            self.assertEqual(told, [table for table in tables if is_reduced_table(table)])
            spaces = {frozenset(slow.code_words(table, n)) for table in tables}
            self.assertEqual(len(told), len(spaces))
            for table in tables:
                reduced = code_of(table, n)
                self.assertIn(reduced, told)
                self.assertEqual(slow.code_words(reduced, n), slow.code_words(table, n))

    def test_random(self):
        chance = random.Random(141)
        for _ in range(150):
            n = chance.randrange(1, 25)
            words = random_words(chance, n, chance.randrange(0, 9))
            told = code_of(words, n)
            self.assertTrue(is_reduced_table(told))
            self.assertIs(is_code(told, n), True)
            self.assertEqual(slow.code_words(told, n), slow.code_words(words, n))
            mixed = words + [tuple((a + b) % 2 for a, b in zip(v, w)) for v, w in zip(words, words[1:])]
            chance.shuffle(mixed)
            self.assertEqual(code_of(tuple(mixed), n), told)
            self.assertIs(is_code(tuple(reversed(told)), n), len(told) < 2)

    def test_edges(self):
        self.assertEqual(code_of([], 5), ())
        self.assertEqual(code_of(((0,) * 24,), 24), ())
        self.assertIs(is_code((), 1), True)
        unit = tuple(tuple(int(i == j) for j in range(24)) for i in range(24))
        self.assertIs(is_code(unit, 24), True)
        self.assertEqual(code_of(list(unit[::-1]) + [(1,) * 24], 24), unit)

    def test_errors(self):
        for value in NO_CODES:
            self.assertIs(is_code(value, 3), False, value)
            malformed(self, weights, value, 3)
            malformed(self, is_doubly_even, value, 3)
            malformed(self, is_self_dual, value, 3)
            malformed(self, sum_of_codes, value, 3, (), 3)
            malformed(self, sum_of_codes, (), 3, value, 3)
        for value in NO_CODE_LENGTHS:
            self.assertIs(is_code((), value), False)
            self.assertIs(is_code(None, value), False)
            malformed(self, code_of, (), value)
            malformed(self, code_of, [], value)
            for function in (weights, is_doubly_even, is_self_dual):
                malformed(self, function, (), value)
            malformed(self, sum_of_codes, (), value, (), 3)
            malformed(self, sum_of_codes, (), 3, (), value)
        for value in (None, True, 3, "100", (1, 0, 0), [1, 0, 0], ((1, 0),), ((1, 0, 2),), ([1, 0, 0],), ((True, 0, 0),),
                      ((1, 0, 0), None), [(1, 0, 0), (0, 1)], {(1, 0, 0): 1}, slow.nested(60)):
            malformed(self, code_of, value, 3)


class Weights(unittest.TestCase):
    def test_by_all_words(self):
        chance = random.Random(142)
        for _ in range(60):
            n = chance.randrange(1, 25)
            table = code_of(random_words(chance, n, chance.randrange(0, 9)), n)
            self.assertEqual(weights(table, n), counted(slow.code_words(table, n), n))
        self.assertEqual(weights((), 4), (1, 0, 0, 0, 0))

    def test_bound(self):
        unit = tuple(tuple(int(i == j) for j in range(24)) for i in range(24))
        self.assertEqual(weights(unit[:12], 24)[:13], (1, 12, 66, 220, 495, 792, 924, 792, 495, 220, 66, 12, 1))
        for many in (13, 14, 24):
            refused(self, "large", weights, unit[:many], 24)
        malformed(self, weights, unit[:13], 23)

    def test_doubly_even_and_self_dual(self):
        chance = random.Random(143)
        tables = [code_of(random_words(chance, n, chance.randrange(0, 7)), n) for n in range(1, 13) for _ in range(12)]
        # All weights are multiples of 4, but the words meet in one place.
        tables += [((1, 1, 1, 0, 1, 0, 0), (0, 0, 0, 1, 1, 1, 1))]
        tables += [(), ((1, 1),), ((1, 1, 1, 1),), ((1, 0),), ((1, 1, 0, 0), (0, 0, 1, 1)),
                   ((1, 1, 0, 0, 1, 1), (0, 0, 1, 1, 1, 1)), ((1, 1, 1, 0, 1, 1, 1), (0, 0, 0, 1, 1, 1, 1))]
        tables += [code_of(chance.choices(small_code(), k=3), 8) for _ in range(5)]
        met = set()
        for table in tables:
            n = len(table[0]) if table else 4
            words = slow.code_words(table, n)
            even = all(sum(word) % 4 == 0 for word in words)
            dual = n == 2 * len(table) and all(sum(a * b for a, b in zip(v, w)) % 2 == 0 for v in words for w in words)
            self.assertIs(is_doubly_even(table, n), even)
            self.assertIs(is_self_dual(table, n), dual)
            met.add((even, dual))
        self.assertLessEqual({(True, False), (False, True), (False, False)}, met)

    def test_tables_of_many_words(self):
        unit = tuple(tuple(int(i == j) for j in range(24)) for i in range(24))
        for many in (13, 24):
            self.assertIs(is_doubly_even(unit[:many], 24), False)
            self.assertIs(is_self_dual(unit[:many], 24), False)


class Named(unittest.TestCase):
    def words(self, texts):
        return [tuple(map(int, text)) for text in texts]

    def test_small(self):
        told = self.words(("11110000", "00111100", "00001111", "10101010"))
        self.assertEqual(slow.code_words(small_code(), 8), slow.code_words(told, 8))
        self.assertIs(is_code(small_code(), 8), True)
        self.assertEqual(weights(small_code(), 8), (1, 0, 0, 0, 14, 0, 0, 0, 1))

    def test_pairs(self):
        self.assertEqual(pair_code(8), small_code())
        for n in (8, 16, 24):
            told = [tuple(int(2 * i <= at <= 2 * i + 3) for at in range(n)) for i in range(n // 2 - 1)]
            told.append(tuple(int(at % 2 == 0) for at in range(n)))
            self.assertEqual(slow.code_words(pair_code(n), n), slow.code_words(told, n))
            self.assertIs(is_code(pair_code(n), n), True)
        for value in NO_CODE_LENGTHS + (1, 4, 7, 9, 12, 20, 32):
            malformed(self, pair_code, value)

    def test_golay(self):
        told = []
        for i in range(12):
            word = [0] * 23
            for j in (0, 2, 4, 5, 6, 10, 11):
                word[i + j] = 1
            told.append(tuple(word + [sum(word) % 2]))
        self.assertEqual(slow.code_words(golay_code(), 24), slow.code_words(told, 24))
        self.assertIs(is_code(golay_code(), 24), True)
        counts = {0: 1, 8: 759, 12: 2576, 16: 759, 24: 1}
        self.assertEqual(weights(golay_code(), 24), tuple(counts.get(w, 0) for w in range(25)))

    def test_all_are_doubly_even_and_self_dual(self):
        for table, n in ((small_code(), 8), (pair_code(16), 16), (pair_code(24), 24), (golay_code(), 24)):
            words = slow.code_words(table, n)
            self.assertTrue(all(sum(word) % 4 == 0 for word in words))
            self.assertEqual(len(words), 2 ** (n // 2))
            self.assertIs(is_doubly_even(table, n), True)
            self.assertIs(is_self_dual(table, n), True)

    def test_sums(self):
        chance = random.Random(144)
        for _ in range(40):
            m, n = chance.randrange(1, 13), chance.randrange(1, 13)
            one, two = (code_of(random_words(chance, size, chance.randrange(0, 5)), size) for size in (m, n))
            told = sum_of_codes(one, m, two, n)
            self.assertIs(is_code(told, m + n), True)
            words = {v + w for v in slow.code_words(one, m) for w in slow.code_words(two, n)}
            self.assertEqual(slow.code_words(told, m + n), words)
        self.assertEqual(len(sum_of_codes(small_code(), 8, pair_code(16), 16)), 12)

    def test_sums_that_are_too_long(self):
        malformed(self, sum_of_codes, (), 12, (), 13)
        malformed(self, sum_of_codes, golay_code(), 24, (), 1)
        malformed(self, sum_of_codes, small_code(), 8, small_code(), 7)
        self.assertEqual(sum_of_codes((), 23, (), 1), ())


if __name__ == "__main__":
    unittest.main()
