"""Point 16.4: the console, its definitions and entries, and its bound."""

import unittest

from classledger.console import Console
from classledger.errors import Refused
from classledger.log import first_wrong, read_log
from classledger.replies import Reply
from tests import slow
from tests.test_replies import ERRORS, PAPERS, PLAIN, WALKS
from tests.test_sheet import LINES


class Consoles(unittest.TestCase):
    def full(self, console, line="tau 1"):
        with self.assertRaises(Refused) as caught:
            console.enter(line)
        self.assertEqual(caught.exception.reason, "lines")

    def test_empty(self):
        console = Console()
        self.assertEqual((len(console), list(console), console.names(), console.log()), (0, [], {}, ""))

    def test_entries(self):
        console = Console()
        lines = ["form f = 2 1 3", "show f", "x", "", "show y", "tau 2"]
        replies = [console.enter(line) for line in lines]
        self.assertEqual([reply.text for reply in replies], ["2 1 3", "2 1 3", "text", "", "refused name", "-24"])
        self.assertEqual(list(console), list(zip(lines, replies)))
        self.assertEqual((len(console), type(replies[0])), (6, Reply))
        self.assertEqual([type(item) for item in console], [tuple] * 6)
        # It is gone over as often as asked.
        self.assertEqual(list(console), list(console))

    def test_definitions(self):
        console = Console()
        self.assertEqual(console.enter("show f").text, "refused name")
        console.enter("form f = 2 1 3")
        self.assertEqual(console.enter("show f").text, "2 1 3")
        console.enter("form f = 1 6 -1")
        self.assertEqual((console.enter("show f").text, console.enter("show f").kind), ("1 6 -1", "form"))
        console.enter("curve f = 7 1 1")
        self.assertEqual((console.enter("show f").text, console.enter("show f").kind), ("7 1 1", "curve"))
        console.enter("twist f f")
        self.assertEqual(console.enter("show f").text, "7 2 6")
        console.enter("form g = 2 1 3")
        console.enter("product g g g")
        self.assertEqual(console.names(), {"f": ("curve", (7, 2, 6)), "g": ("form", (2, -1, 3))})

    def test_errors_define_nothing(self):
        console = Console()
        console.enter("form f = 2 1 3")
        for line in ("form f = 1 2 1", "form f = 1 1", "curve f = 7 0 0", "product f f x", "product f x f", "twist f f",
                     "twist f x", "form f = 10 10 10 10", "Form f = 1 0 1", "form  f == 1 0 1"):
            self.assertEqual(console.enter(line).kind, "error")
            self.assertEqual(console.names(), {"f": ("form", (2, 1, 3))})
        console.enter("form k = 2 0 2")
        self.assertEqual(console.enter("product f k k").text, "malformed")
        self.assertEqual(console.enter("show f").text, "2 1 3")

    def test_names_are_a_new_dict(self):
        console = Console()
        console.enter("form f = 2 1 3")
        told = console.names()
        self.assertIsNot(told, console.names())
        told["f"] = None
        told["g"] = ("form", (1, 0, 1))
        self.assertEqual(console.names(), {"f": ("form", (2, 1, 3))})
        self.assertEqual(console.enter("show g").text, "refused name")
        before = console.names()
        console.enter("form g = 1 0 1")
        self.assertEqual(before, {"f": ("form", (2, 1, 3))})

    def test_bound(self):
        console = Console()
        for at in range(300):
            console.enter(f"form f = 1 0 {at + 1}" if at % 2 else "x")
        before = (console.names(), console.log(), list(console))
        for line in ("tau 1", "form g = 1 0 1", "", "x"):
            self.full(console, line)
            self.assertEqual((console.names(), console.log(), list(console), len(console)), before + (300,))

    def test_other_bounds(self):
        for most in (0, 1, 2, 7):
            console = Console(most=most)
            for _ in range(most):
                console.enter("")
            self.full(console)
            self.full(console, "form f = 1 0 1")
            self.assertEqual((len(console), console.names()), (most, {}))
        console = Console(most=301)
        for _ in range(301):
            console.enter("x")
        self.full(console)
        with self.assertRaises(TypeError):
            Console(5)

    def test_errors_count_as_entries(self):
        console = Console(most=2)
        console.enter("x")
        console.enter("show f")
        self.full(console, "form f = 1 0 1")

    def test_two_consoles(self):
        one, two = Console(), Console()
        one.enter("form f = 2 1 3")
        self.assertEqual((two.enter("show f").text, len(one), two.names()), ("refused name", 1, {}))

    def test_log(self):
        console = Console()
        for line in ("form f = 2 1 3", "value f 6", "value f 5", "", "show x"):
            console.enter(line)
        told = console.log().split("\n")
        self.assertEqual(told[:3] + told[-10:], [
            "> form f = 2 1 3", "= form 2 1 3", "# ()", "> value f 5", "= value no", "# (none ())", "> ", "= done ", "# ()",
            "> show x", "= error refused name", "# ()", ""])
        self.assertEqual(read_log(console.log()), list(console))

    def test_long_units(self):
        # One of the longest units: the integers of all papers still have a written form.
        D = 994249
        cycle = slow.cycle(slow.near(slow.principal(D)))
        console = Console()
        for name, f in (("a", cycle[0]), ("b", cycle[1]), ("c", cycle[-1])):
            console.enter("form {} = {} {} {}".format(name, *f))
        for line in (f"unit {D}", f"minus {D}", "alike a b", "alike b a", "alike c a", "alike b c", "product d b c", "cycle a",
                     f"value a {cycle[1][0]}", f"value b {cycle[0][0]}", f"value b {cycle[-1][0]}"):
            self.assertNotEqual(console.enter(line).kind, "error", line)
        self.assertGreater(len(console.log()), 10000)
        self.assertEqual(first_wrong(read_log(console.log())), -1)

    def test_every_line(self):
        console = Console()
        for line in list(LINES) + list(PLAIN) + list(PAPERS) + list(ERRORS) + list(WALKS):
            if len(console) < 300:
                console.enter(line)
        self.assertGreater(len(console), 200)
        entries = read_log(console.log())
        self.assertEqual(entries, list(console))
        self.assertEqual(first_wrong(entries), -1)


if __name__ == "__main__":
    unittest.main()
