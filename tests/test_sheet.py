"""Points 16.1 and 16.2: the lines of worksheets, and the commands that they tell."""

import random
import unittest

from classledger.errors import NoText
from classledger.replies import Reply
from classledger.sheet import read_line
from tests import slow

# A line of each form, with the command that it tells.
LINES = {
    "form f = 2 1 3": ("form", "f", (2, 1, 3)),
    "form abcdefgh = -1 0 10": ("form", "abcdefgh", (-1, 0, 10)),
    "curve e = 7 1 1": ("curve", "e", (7, 1, 1)),
    "product h f g": ("product", "h", "f", "g"),
    "twist t e": ("twist", "t", "e"),
    "show x": ("show", "x"),
    "reduce f": ("reduce", "f"),
    "alike f g": ("alike", "f", "g"),
    "value f -6": ("value", "f", -6),
    "cycle f": ("cycle", "f"),
    "genus f": ("genus", "f"),
    "square f": ("square", "f"),
    "forms -23": ("forms", -23),
    "classes 40": ("classes", 40),
    "unit 61": ("unit", 61),
    "minus 61": ("minus", 61),
    "twelve 0": ("twelve", 0),
    "points e": ("points", "e"),
    "order e -": ("order", "e", ()),
    "order e 0,1": ("order", "e", (0, 1)),
    "log e 0,1 -": ("log", "e", (0, 1), ()),
    "log e - 12,0": ("log", "e", (), (12, 0)),
    "curves 7 -3": ("curves", 7, -3),
    "walk 37 2 3,10 8,0": ("walk", 37, 2, (3, 10), (8, 0)),
    "prime 91": ("prime", 91),
    "factors 12": ("factors", 12),
    "squares 2 50": ("squares", 2, 50),
    "squares 3 0": ("squares", 3, 0),
    "squares 4 -1": ("squares", 4, -1),
    "trace 12 2": ("trace", 12, 2),
    "row 24 2": ("row", 24, 2),
    "tau 6": ("tau", 6),
    "goes 4 1": ("goes", 4, (1,)),
    "goes 4 1 240 2160": ("goes", 4, (1, 240, 2160)),
    "form form = 1 0 1": ("form", "form", (1, 0, 1)),
    "show show": ("show", "show"),
}
EMPTY = ("", " ", "     ", "#", "# form f = 1", "#form f = 2 1 3", "##", "#" * 2000, " " * 2000)
NUMBERS = ("forms", "classes", "unit", "minus", "twelve", "prime", "factors", "tau")


class Lines(unittest.TestCase):
    def bars(self, line):
        with self.assertRaises(NoText) as caught:
            read_line(line)
        self.assertEqual(caught.exception.at, 0)

    def test_each_form(self):
        for line, told in LINES.items():
            self.assertEqual(read_line(line), told)
            self.assertTrue(all(type(item) in (str, int, tuple) for item in read_line(line)))

    def test_all_commands_are_here(self):
        self.assertEqual(len({line.split()[0] for line in LINES}), 28)

    def test_empty(self):
        for line in EMPTY:
            self.assertEqual(read_line(line), ("empty",))
        for line in (" #", " # form f = 2 1 3", "form f = 2 1 3 #", "show #", "show f#"):
            self.bars(line)

    def test_signs(self):
        every = "".join(map(chr, range(32, 127)))
        self.assertEqual(read_line("#" + every), ("empty",))
        for sign in every:
            self.assertEqual(read_line("# " + sign), ("empty",))
            if sign not in "# ":
                self.bars(sign + "# ")
        for number in list(range(32)) + [127, 128, 160, 255, 0x2003, 0x10ffff, 0xd800]:
            self.bars("#" + chr(number))
            self.bars(chr(number))

    def test_spaces(self):
        chance = random.Random(161)
        for line, told in LINES.items():
            for _ in range(5):
                spaced = "".join(" " * chance.randrange(1, 6) if sign == " " else sign for sign in line)
                spaced = " " * chance.randrange(4) + spaced + " " * chance.randrange(4)
                self.assertEqual(read_line(spaced), told)
            for other in ("\t", "\n", "\r", "\x0b", "\x0c", "\xa0", "\u2003", "\x1f", "\x7f", "\x00", "\x85"):
                self.bars(line.replace(" ", other))
                self.bars(line + other)
                self.bars(other + line)
                self.bars(line.replace(" ", " " + other, 1))

    def test_lengths(self):
        for line, told in LINES.items():
            self.assertEqual(read_line(line + " " * (2000 - len(line))), told)
            self.assertEqual(read_line(" " * (2000 - len(line)) + line), told)
            self.bars(line + " " * (2001 - len(line)))
            self.bars(" " * (2001 - len(line)) + line)
        self.bars("#" * 2001)
        self.bars(" " * 2001)
        self.bars("# " + "x" * 5000)
        digits = "9" * (2000 - len("twelve "))
        self.assertEqual(read_line("twelve " + digits), ("twelve", int(digits)))
        self.bars("twelve " + digits + "9")
        self.assertEqual(read_line("goes 4" + " 1" * 997), ("goes", 4, (1,) * 997))

    def test_tokens_more_or_less(self):
        for line in LINES:
            tokens = line.split()
            more = "1" if tokens[0] != "goes" else "x"
            self.bars(line + " " + more)
            self.bars(more + " " + line)
            for at in range(len(tokens)):
                left = tokens[:at] + tokens[at + 1:]
                if tokens[0] == "goes" and at and len(tokens) > 3:
                    continue
                if left:
                    self.bars(" ".join(left))
                twice = tokens[:at + 1] + tokens[at:]
                if tokens[0] != "goes" or at == 0:
                    self.bars(" ".join(twice))

    def test_words(self):
        for line in LINES:
            word, _, rest = line.partition(" ")
            for other in (word.upper(), word.title(), word + "s", word[:-1], "x" + word, word + "=", "", "empty", "done",
                          word + "#", "-" + word):
                if (other + " " + rest).split()[0] not in {told.split()[0] for told in LINES}:
                    self.bars(other + " " + rest)
        for line in ("empty", "x", "=", "1", "-", "form", "goes", "goes 4", "help", "forms", "show", "0,1"):
            self.bars(line)

    def test_names(self):
        for line, told in LINES.items():
            tokens = line.split()
            for at, token in enumerate(tokens):
                if at and token.isalpha():
                    for name in ("a", "z", "abcdefgh", "zzzzzzzz", "form", "goes"):
                        read = read_line(" ".join(tokens[:at] + [name] + tokens[at + 1:]))
                        self.assertEqual(read[:1], told[:1])
                        self.assertIn(name, read)
                    for name in ("abcdefghi", "F", "aB", "f1", "1f", "f_", "f-", "a,b", "=", "-", "1", "f.", "\xe9", "\xdf"):
                        self.bars(" ".join(tokens[:at] + [name] + tokens[at + 1:]))

    def test_integers(self):
        for line in LINES:
            tokens = line.split()
            for at, token in enumerate(tokens):
                if token.removeprefix("-").isdigit():
                    for text in ("0" + token, "+" + token, "-" + "0" + token.removeprefix("-"), token + ".0", token + "e", "1_0",
                                 token + ",", "--" + token, "-", "x", "0x1", "\u0661", "\xb2", token + "-", "-0", "00"):
                        self.bars(" ".join(tokens[:at] + [text] + tokens[at + 1:]))
        for word in NUMBERS:
            for n in (0, 1, -1, 10, -10, 10 ** 1900, -10 ** 1900):
                self.assertEqual(read_line(f"{word} {n}"), (word, n))

    def test_points(self):
        for text, told in (("-", ()), ("0,0", (0, 0)), ("10,200", (10, 200)), ("0,1", (0, 1))):
            self.assertEqual(read_line("order e " + text), ("order", "e", told))
            self.assertEqual(read_line("log e - " + text), ("log", "e", (), told))
            if told:
                self.assertEqual(read_line(f"walk 5 2 {text} {text}"), ("walk", 5, 2, told, told))
        for text in ("--", "()", ",", "1,", ",1", "1,2,3", "01,2", "1,02", "+1,2", "1,+2", "-1,2", "1,-2", "-0,1", "1,-0", "1",
                     "1.2", "1;2", "(1,2)", "1,2,", "x,y", "-,-", "1,-", "-,1", "a", "0,,1"):
            self.bars("order e " + text)
            self.bars(f"log e {text} -")
            self.bars(f"log e - {text}")
            self.bars(f"walk 5 2 {text} 0,1")
            self.bars(f"walk 5 2 0,1 {text}")
        self.bars("walk 5 2 - 0,1")
        self.bars("walk 5 2 0,1 -")
        self.bars("order e 1, 2")
        self.bars("order e 1 ,2")
        self.bars("order e 1 , 2")

    def test_definitions(self):
        for sign in ("==", ":=", "-", "", "=1", "x"):
            self.bars(f"form f {sign} 2 1 3")
            self.bars(f"curve e {sign} 7 1 1")
        self.bars("form f =2 1 3")
        self.bars("form f= 2 1 3")
        for form in ((1, 2, 1), (0, 0, 0), (-1, 1, -6), (1, 1, 0), (-2, 1, -3), (10 ** 60, 1, 1), (1, 10 ** 60, 1), (1, 3, 2)):
            self.bars("form f = {} {} {}".format(*form))
        for form in ((10 ** 60 - 1, 1, 1), (-(10 ** 60) + 1, 1, 1), (-1, 6, 1), (2, 2, 2)):
            self.assertEqual(read_line("form f = {} {} {}".format(*form)), ("form", "f", form))
        for curve in ((7, 0, 0), (7, 1, 2), (9, 1, 1), (3, 1, 1), (7, 7, 1), (7, -1, 1), (7, 1, 8), (-7, 1, 1), (0, 0, 0),
                      (10 ** 10 + 19, 1, 1), (10 ** 600, 1, 1)):
            self.bars("curve e = {} {} {}".format(*curve))
        self.assertEqual(read_line("curve e = 9999999967 1 1"), ("curve", "e", (9999999967, 1, 1)))

    def test_squares(self):
        for k in (-2, 0, 1, 5, 8, 10 ** 100):
            self.bars(f"squares {k} 50")

    def test_values(self):
        for value in slow.ODD_VALUES + (b"show f", ["show f"], ("show", "f"), 1, Reply("done"), {"show": "f"}, object()):
            if value != "" and type(value) is not str:
                self.bars(value)


if __name__ == "__main__":
    unittest.main()
