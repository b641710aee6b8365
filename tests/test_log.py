"""Points 16.5 and 16.6: written forms of plain data and of logs, and the first wrong entry."""

import random
import unittest

from classledger.console import Console
from classledger.errors import Malformed, NoText
from classledger.log import first_wrong, read_data, read_log, write_data, write_log
from classledger.replies import Reply
from tests import slow
from tests.papers import NO_PAPERS
from tests.test_forms import malformed

MOST = 10 ** 4000 - 1

# Plain data and their written forms, sign by sign.
WRITTEN = (
    (0, "0"), (7, "7"), (-7, "-7"), (10 ** 20, "100000000000000000000"), ("a", "a"), ("abcdefghijkl", "abcdefghijkl"),
    ((), "()"), ((1,), "(1)"), (("a",), "(a)"), (((),), "(())"), ((1, 2), "(1 2)"), ((1, "b", ()), "(1 b ())"),
    (((), ()), "(() ())"), ((((1,),),), "(((1)))"), ((-1, (0, "x"), -20), "(-1 (0 x) -20)"),
    (("same", ((1, 0), (0, 1))), "(same ((1 0) (0 1)))"), ((("a", "b"), ("c",)), "((a b) (c))"),
    (("powers", ((2, 3, ("small",)),)), "(powers ((2 3 (small))))"), (MOST, "9" * 4000), (-MOST, "-" + "9" * 4000),
    ((MOST, -MOST), "(" + "9" * 4000 + " -" + "9" * 4000 + ")"))

NO_DATA = (
    None, True, False, "", "A", "aB", "a b", "a1", "1", "-", "abcdefghijklm", "a\n", "\xe9", [], [1], {}, {"a": 1}, 1.0,
    b"a", Reply("a"), ValueError("a"), (None,), (True,), (1, False), ("",), ("A",), ([],), ((1, [2]),), (("abcdefghijklm",),),
    ((), None), slow.nested(61), (1, slow.nested(60)), (((Reply("a"),),),), object(), ("a b",), ("(",), ("1",))

NO_TEXTS = (
    "", " ", "  ", "A", "aB", "a1", "1a", "abcdefghijklm", "01", "+1", "-0", "--1", "1.0", "1 ", " 1", "1 2", "a b", "(", ")",
    "((", "))", "())", "(()", ")(", "()()", "() ()", "( )", "(1 )", "( 1)", "(1  2)", "(1 2", "1 2)", "(1)(2)", "((1)(2))",
    "(1(2))", "(1 (2)3)", "(a(b))", "(a,b)", "(1,)", "[1]", "(1\n2)", "(1\t2)", "\n", "(1)\n", "\n(1)", "(True)", "(None)",
    "(-)", "('a')", '"a"', "(a\xa0b)", "(\u0661)", "\xe9", "(1 2) ", " (1 2)", "(1 2)a", "a(1 2)", "(01)", "(A)", "(1_0)",
    "9" * 4001, "-" + "9" * 4001, "0" * 4000, "(" * 61 + ")" * 61, "(" * 60 + ")" * 61, "(" * 61 + ")" * 60,
    "(" * 100000, ")" * 100000, "(" * 50000 + ")" * 50000)


def random_data(chance, deep):
    """Return plain data that are nested at most so deep."""
    kind = chance.randrange(4 if deep else 2)
    if kind == 0:
        return chance.randrange(-10 ** chance.randrange(1, 40), 10 ** chance.randrange(1, 40))
    if kind == 1:
        return "".join(chance.choice("abcxyz") for _ in range(chance.randrange(1, 13)))
    return tuple(random_data(chance, deep - 1) for _ in range(chance.randrange(0, 4)))


def slow_text(data):
    """Return the written form of plain data, by the words of point 16.6."""
    if type(data) is tuple:
        return "(" + " ".join(slow_text(item) for item in data) + ")"
    return data if type(data) is str else str(data)


class Data(unittest.TestCase):
    def bars(self, text):
        with self.assertRaises(NoText) as caught:
            read_data(text)
        self.assertEqual(caught.exception.at, 0)

    def test_written(self):
        for data, text in WRITTEN:
            self.assertEqual(write_data(data), text)
            told = read_data(text)
            self.assertEqual((told, type(told)), (data, type(data)))

    def test_depth(self):
        for deep in range(1, 61):
            data = slow.nested(deep)
            self.assertEqual(write_data(data), "(" * deep + ")" * deep)
            self.assertEqual(read_data("(" * deep + ")" * deep), data)
            filled = (7,)
            for _ in range(deep - 1):
                filled = ("a", filled, -1)
            self.assertEqual(read_data(write_data(filled)), filled)
        malformed(self, write_data, slow.nested(61))
        self.bars("(" * 61 + ")" * 61)
        self.assertEqual(read_data("(() " + "(" * 59 + "1" + ")" * 59 + " ())")[2], ())
        self.bars("(() " + "(" * 60 + "1" + ")" * 60 + " ())")

    def test_digits(self):
        for n in (10 ** 3999, 10 ** 4000 - 1, -(10 ** 3999), 10 ** 4000 - 2):
            self.assertEqual(read_data(write_data(n)), n)
            self.assertEqual(read_data(write_data((n, (n,)))), (n, (n,)))
        for n in (10 ** 4000, -(10 ** 4000), 10 ** 4300, 10 ** 10000):
            malformed(self, write_data, n)
            malformed(self, write_data, (1, (n,)))

    def test_no_data(self):
        for value in NO_DATA:
            malformed(self, write_data, value)
            malformed(self, write_data, (value,))
            malformed(self, write_data, (1, "a", (value, 2)))

    def test_no_texts(self):
        for text in NO_TEXTS:
            self.bars(text)
        for value in slow.ODD_VALUES + NO_PAPERS + (b"(1)", 1, ["(1)"], ("(1)",)):
            if not isinstance(value, str):
                self.bars(value)

    def test_random(self):
        chance = random.Random(166)
        texts = {}
        for _ in range(3000):
            data = random_data(chance, 5)
            text = write_data(data)
            self.assertEqual(text, slow_text(data))
            self.assertEqual(read_data(text), data)
            self.assertEqual(texts.setdefault(text, data), data)

    def test_spoilt_at_each_place(self):
        chance = random.Random(167)
        signs = "() -019azA\n\t,.\xe9"
        for _ in range(150):
            text = write_data(random_data(chance, 4))
            for at in range(len(text) + 1):
                spoilt = [text[:at] + sign + text[at:] for sign in signs] + [text[:at] + text[at + 1:]]
                spoilt += [text[:at] + sign + text[at + 1:] for sign in signs]
                for other in spoilt:
                    try:
                        told = read_data(other)
                    except NoText:
                        continue
                    # Whatever is read has just this written form.
                    self.assertEqual(slow_text(told), other)


def entry(line, kind, text="", data=()):
    """Return an entry."""
    return (line, Reply(kind, text, data))


ENTRIES = [entry("form f = 2 1 3", "form", "2 1 3"), entry("", "done"), entry("show x", "error", "refused name"),
           entry("prime 91", "prime", "no", ("factor", 7)), entry("  > = # ", "abcdefghijkl", " a  b ", ((), ("x", -1))),
           entry("\t\r\xe9\u2028", "a", "\x0b", (1,)), entry("> ", "x", "= ", ())]


class Logs(unittest.TestCase):
    def bars(self, text, at):
        with self.assertRaises(NoText) as caught:
            read_log(text)
        self.assertEqual(caught.exception.at, at, repr(text))

    def test_written(self):
        self.assertEqual(write_log([]), "")
        self.assertEqual(write_log(ENTRIES[:1]), "> form f = 2 1 3\n= form 2 1 3\n# ()\n")
        self.assertEqual(write_log(ENTRIES[1:2]), "> \n= done \n# ()\n")
        self.assertEqual(write_log(ENTRIES[3:5]), "> prime 91\n= prime no\n# (factor 7)\n>   > = # \n= abcdefghijkl  a  b \n"
                                                  "# (() (x -1))\n")

    def test_read_back(self):
        for first in range(len(ENTRIES)):
            for last in range(first, len(ENTRIES) + 1):
                told = read_log(write_log(ENTRIES[first:last]))
                self.assertEqual(told, ENTRIES[first:last])
                self.assertEqual((type(told), [type(item) for item in told]), (list, [tuple] * len(told)))
        deep = entry("x", "a", "", slow.nested(60))
        self.assertEqual(read_log(write_log([deep])), [deep])
        great = entry("x", "a", "", (MOST,))
        self.assertEqual(read_log(write_log([great])), [great])

    def test_each_line_spoilt(self):
        rows = write_log(ENTRIES).split("\n")[:-1]
        for at, row in enumerate(rows):
            spoilt = {0: [">" + row[2:], row[1:], "x" + row, " " + row, "", "# ()", "= a b", row[2:]],
                      1: ["=" + row[2:], row[1:], "= " + row[2:].partition(" ")[0], "= ", "=  a", "= A b", "= a1 b", "", "> x",
                          "= abcdefghijklm x", " " + row, "# ()"],
                      2: ["#" + row[2:], row[1:], "# ", "#", "# 1", "# a", "# (", "# ( )", row + " ", " " + row, "", "#  ()",
                          "# () ()", "# (01)", "> x", "= a b", row + ")", "# " + "(" * 61 + ")" * 61]}[at % 3]
            for other in spoilt:
                # Less one sign a line that begins with spaces still has the form.
                if other == row or (at % 3 == 0 and other.startswith("> ")):
                    continue
                self.bars("\n".join(rows[:at] + [other] + rows[at + 1:]) + "\n", at)
                # The first wrong line is told, whatever stands behind it.
                self.bars("\n".join(rows[:at] + [other, "", "x"]), at)

    def test_lines_left_out(self):
        rows = write_log(ENTRIES).split("\n")[:-1]
        for at in range(len(rows)):
            text = "\n".join(rows[:at] + rows[at + 1:]) + "\n"
            if at + 1 < len(rows):
                if at % 3 or at + 2 < len(rows):
                    self.bars(text, at)
            else:
                self.bars(text, len(rows) - 1)

    def test_ends(self):
        text = write_log(ENTRIES)
        count = 3 * len(ENTRIES)
        # Without the last line feed, and behind each line of an entry.
        self.bars(text[:-1], count - 1)
        rows = text.split("\n")[:-1]
        for many in range(1, count + 1):
            begun = "\n".join(rows[:many])
            if many % 3:
                self.bars(begun + "\n", many)
            else:
                self.assertEqual(read_log(begun + "\n"), ENTRIES[:many // 3])
            self.bars(begun, many - 1)
        self.bars(text + "\n", count)
        self.bars(text + "> x", count)
        self.bars(text + "x", count)
        self.bars("\n", 0)
        self.bars("x", 0)
        self.bars("> x", 0)
        self.bars("> x\n", 1)
        self.bars("> x\n= a b\n", 2)
        self.bars("> x\n= a b\n# ()", 2)
        self.bars(" ", 0)
        self.assertEqual(read_log(""), [])

    def test_other_line_feeds(self):
        # Only a line feed ends a line.
        told = [entry("a\rb\x0bc\x0cd\x1ce\x85f\u2028g", "a", "\r", ())]
        self.assertEqual(read_log(write_log(told)), told)
        self.bars("> x\r\n= a b\r\n# ()\r\n", 2)

    def test_no_text(self):
        for value in slow.ODD_VALUES + NO_PAPERS + (b"", [""], 0, Reply("a")):
            if not isinstance(value, str):
                self.bars(value, 0)

    def test_no_entries(self):
        good = entry("x", "a", "b", (1,))
        for value in NO_DATA + ((), ("x",), ["x", Reply("a")], ("x", Reply("a"), 1), (Reply("a"), "x"), ("x", "a"), ("x", None),
                                (None, Reply("a")), (b"x", Reply("a")), ("x\n", Reply("a")), ("a\nb", Reply("a")),
                                (1, Reply("a")), ("x", Reply("A")), ("x", Reply("")), ("x", Reply("a b")), ("x", Reply("a\n")),
                                ("x", Reply(None)), ("x", Reply(1)), ("x", Reply("abcdefghijklm")), ("x", Reply("a", None)),
                                ("x", Reply("a", 1)), ("x", Reply("a", "b\n")), ("x", Reply("a", "\n")), ("x", Reply("a", ["b"])),
                                ("x", Reply("a", "b", None)), ("x", Reply("a", "b", 1)), ("x", Reply("a", "b", "c")),
                                ("x", Reply("a", "b", [1])), ("x", Reply("a", "b", (None,))), ("x", Reply("a", "b", (True,))),
                                ("x", Reply("a", "b", ("A",))), ("x", Reply("a", "b", slow.nested(61))),
                                ("x", Reply("a", "b", (10 ** 4000,)))):
            malformed(self, write_log, [value])
            malformed(self, write_log, [good, value])
            malformed(self, write_log, [value, good])


class FirstWrong(unittest.TestCase):
    def console(self):
        console = Console()
        for line in ("form f = 2 1 3", "product g f f", "alike f g", "x", "classes -23", "form f = 1 6 -1", "cycle f", "show g",
                     "product f f f", "curve f = 7 1 1", "points f", "twist f f", "show f", "prime 97"):
            console.enter(line)
        return console

    def test_none(self):
        self.assertEqual(first_wrong([]), -1)
        entries = list(self.console())
        self.assertEqual(first_wrong(entries), -1)
        self.assertEqual(first_wrong(read_log(write_log(entries))), -1)

    def test_each(self):
        entries = list(self.console())
        for at, (line, reply) in enumerate(entries):
            for wrong in ((line, Reply(reply.kind, reply.text + "1", reply.data)), (line, Reply("error", "refused y")),
                          [line, reply], (line,), None, 7, (line, reply, reply), ("show nobody", reply), (line, None)):
                self.assertEqual(first_wrong(entries[:at] + [wrong] + entries[at + 1:]), at)
                self.assertEqual(first_wrong(entries[:at] + [wrong] + [None] * 3), at)
        for value in slow.ODD_VALUES + NO_PAPERS:
            self.assertEqual(first_wrong([value]), 0)
            self.assertEqual(first_wrong(entries + [value]), len(entries))

    def test_definitions_left_out(self):
        entries = list(self.console())
        # Without the first definition the next line is the first wrong one; the entries stand over what was defined.
        self.assertEqual(first_wrong(entries[1:]), 0)
        self.assertEqual(first_wrong(entries[:1] + entries[2:]), 1)
        self.assertEqual(first_wrong(entries[:5] + entries[6:]), 5)
        self.assertEqual(first_wrong(entries[:2] + entries[3:]), -1)
        self.assertEqual(first_wrong(entries[::-1]), 1)

    def test_an_error_defines_nothing(self):
        entries = [entry("product f g g", "error", "refused name"), entry("show f", "error", "refused name"),
                   entry("form f = 1 2 1", "error", "text"), entry("show f", "error", "refused name"),
                   entry("form f = 2 1 3", "form", "2 1 3"), entry("product f f x", "error", "refused name"),
                   entry("show f", "form", "2 1 3"), entry(None, "error", "text"), entry("show f", "form", "2 1 3")]
        self.assertEqual(first_wrong(entries), -1)

    def test_nothing_is_changed(self):
        entries = list(self.console())
        before = list(entries)
        first_wrong(entries)
        write_log(entries)
        self.assertEqual(entries, before)
        with self.assertRaises(Malformed):
            write_log(entries + [None])
        self.assertEqual(entries, before)


if __name__ == "__main__":
    unittest.main()
