"""Codes: words of zeros and ones, and their reduced tables."""

from classledger.errors import Malformed, Refused
from classledger.rows import dot, is_row
from classledger.whole import is_integer

LONGEST = 24
MOST_COUNTED = 12
PAIR_LENGTHS = (8, 16, 24)

SMALL_WORDS = (
    (1, 1, 1, 1, 0, 0, 0, 0), (0, 0, 1, 1, 1, 1, 0, 0), (0, 0, 0, 0, 1, 1, 1, 1), (1, 0, 1, 0, 1, 0, 1, 0))

GOLAY_WORDS = 12
GOLAY_PLACES = (0, 2, 4, 5, 6, 10, 11)


def _is_length(value):
    """Return True if the value is a length of codes."""
    return is_integer(value) and 1 <= value <= LONGEST


def _is_word(value, n):
    """Return True if the value is a word of the length n."""
    return is_row(value, n) and all([item in (0, 1) for item in value])


def sum_of_words(v, w):
    """Return the sum of two words."""
    return tuple([a ^ b for a, b in zip(v, w)])


def _reduced_table(words):
    """Return the reduced table of the sums of words of one length."""
    table = []
    for word in words:
        for row in table:
            if word[row.index(1)]:
                word = sum_of_words(word, row)
        if 1 in word:
            at = word.index(1)
            table = [sum_of_words(row, word) if row[at] else row for row in table] + [word]
    # A word whose first one stands further left is greater as a tuple.
    return tuple(sorted(table, reverse=True))


def is_code(value, n):
    """Return True if the value is the reduced table of a code of the length n."""
    if not _is_length(n) or not isinstance(value, tuple) or len(value) > n:
        return False
    return all([_is_word(word, n) for word in value]) and _reduced_table(value) == value


def code_of(words, n):
    """Return the reduced table of the sums of words of the length n."""
    if not _is_length(n) or not isinstance(words, (list, tuple)) or not all([_is_word(word, n) for word in words]):
        raise Malformed("no words")
    return _reduced_table(words)


def check_code(code, n):
    """Raise Malformed if the value is no reduced table of a code of the length n."""
    if not is_code(code, n):
        raise Malformed("no code")


def all_words(code, n):
    """Return the list of all words of a code."""
    words = [(0,) * n]
    for row in code:
        words = words + [sum_of_words(word, row) for word in words]
    return words


def weights(code, n):
    """Return the tuple of the numbers of the words of the weights 0 to n."""
    check_code(code, n)
    if len(code) > MOST_COUNTED:
        raise Refused("large")
    counts = [0] * (n + 1)
    for word in all_words(code, n):
        counts[sum(word)] += 1
    return tuple(counts)


def _meets_evenly(code):
    """Return True if each two words of a table have an even number of common ones."""
    return not any([dot(v, w) % 2 for at, v in enumerate(code) for w in code[:at]])


def is_doubly_even(code, n):
    """Return True if the weights of all words of a code are multiples of 4."""
    check_code(code, n)
    return not any([sum(word) % 4 for word in code]) and _meets_evenly(code)


def is_self_dual(code, n):
    """Return True if a code is self-dual."""
    check_code(code, n)
    return n == 2 * len(code) and not any([sum(word) % 2 for word in code]) and _meets_evenly(code)


def small_code():
    """Return the reduced table of the code E."""
    return _reduced_table(SMALL_WORDS)


def _word_at(places, n):
    """Return the word of the length n with ones at the places."""
    return tuple([1 if at in places else 0 for at in range(n)])


def pair_code(n):
    """Return the reduced table of the code D(n)."""
    if not is_integer(n) or n not in PAIR_LENGTHS:
        raise Malformed("no such length")
    words = [_word_at(list(range(2 * i, 2 * i + 4)), n) for i in range(n // 2 - 1)]
    return _reduced_table(words + [_word_at(list(range(0, n, 2)), n)])


def golay_code():
    """Return the reduced table of Golay's code G."""
    # Each word of the length 23 has seven ones, so the last place has one more.
    words = [_word_at([i + j for j in GOLAY_PLACES] + [LONGEST - 1], LONGEST) for i in range(GOLAY_WORDS)]
    return _reduced_table(words)


def sum_of_codes(one, m, two, n):
    """Return the reduced table of the sum of two codes of the lengths m and n."""
    check_code(one, m)
    check_code(two, n)
    if m + n > LONGEST:
        raise Malformed("too long")
    return tuple([word + (0,) * n for word in one]) + tuple([(0,) * m + word for word in two])
