"""Points 16.2, 16.3 and 16.5: replies to lines, what lines define, and entries that are right."""

import copy
import itertools
import unittest

from classledger.console import Console
from classledger.curvechecker import takes_curves, takes_log, takes_number, takes_order
from classledger.errors import Fault, Malformed, NoText, Refused
from classledger.formchecker import takes_classes, takes_minus, takes_same, takes_square, takes_unit, takes_value
from classledger.members import joining_value
from classledger.primechecker import takes_factors, takes_four, takes_prime, takes_three, takes_two
from classledger.replies import Reply, defined, is_right, reply_to
from classledger.serieschecker import takes_goes, takes_trace
from tests import slow
from tests.papers import NO_PAPERS, bends
from tests.test_sheet import LINES

F, G, I, J, K, E, T, A = ((2, 1, 3), (2, -1, 3), (1, 6, -1), (1, 0, -10), (2, 0, 2), (7, 1, 1), (7, 2, 6), (5, 1, 0))
NAMES = {"f": ("form", F), "g": ("form", G), "i": ("form", I), "j": ("form", J), "k": ("form", K), "e": ("curve", E),
         "t": ("curve", T), "a": ("curve", A), "o": ("form", (1, 1, 6)), "w": ("curve", (7, 2, 1)),
         "s": ("form", (2, 2, 11)), "v": ("form", (1, 0, 21)), "p": ("form", (-3, 2, 3)), "big": ("form", (1, 1, 10 ** 20)),
         "wide": ("form", (1, 1, -10 ** 20))}

# Lines that are answered without data: the kind and the text.
PLAIN = {
    "form x = 2 1 3": ("form", "2 1 3"), "form x = -1 0 10": ("form", "-1 0 10"), "curve x = 7 1 1": ("curve", "7 1 1"),
    "product x f f": ("form", "2 -1 3"), "product x f g": ("form", "1 1 6"), "product x p p": ("form", "-1 6 1"),
    "twist x e": ("curve", "7 2 6"), "show f": ("form", "2 1 3"), "show e": ("curve", "7 1 1"), "show j": ("form", "1 0 -10"),
    "reduce j": ("form", "-1 6 1"), "reduce f": ("form", "2 1 3"), "reduce k": ("form", "2 0 2"),
    "forms -23": ("number", "3"), "forms -12": ("number", "1"), "forms 40": ("number", "2"), "forms 60": ("number", "4"),
    "twelve 23": ("number", "36"), "twelve 0": ("number", "-1"), "twelve 1": ("number", "0"), "twelve -5": ("number", "0"),
    "curves 7 0": ("number", "6"), "curves 7 6": ("number", "0"), "curves 7 -3": ("number", "3"),
    "tau 6": ("number", "-6048"), "tau 1": ("number", "1"), "cycle i": ("cycle", "-6 6"), "genus s": ("genus", "1 -1 -1"),
    "genus f": ("genus", "1"), "genus v": ("genus", "1 1 1"), "row 24 2": ("row", "1 -1080 -20468736"), "row 4 2": ("row", "1"),
    "row 12 2": ("row", "1 24"), "": ("done", ""), "   ": ("done", ""), "# form": ("done", ""),
}

# Lines that are answered by a paper: the text, the judge, and what it is asked with.
PAPERS = {
    "alike f g": ("no", takes_same, F, G), "alike f f": ("yes", takes_same, F, F), "alike i j": ("yes", takes_same, I, J),
    "alike j p": ("no", takes_same, J, (-3, 2, 3)), "alike e w": ("yes", takes_curves, E, (7, 2, 1)),
    "alike e t": ("no", takes_curves, E, T), "alike t t": ("yes", takes_curves, T, T),
    "value f 6": ("yes", takes_value, F, 6), "value f 5": ("no", takes_value, F, 5), "value f 1": ("no", takes_value, F, 1),
    "value j -10": ("yes", takes_value, J, -10), "value j 3": ("no", takes_value, J, 3),
    "square s": ("no", takes_square, (2, 2, 11)), "square f": ("yes", takes_square, F), "square p": ("no", takes_square, (-3, 2, 3)),
    "classes -23": ("3 3", takes_classes, -23), "classes -3": ("1", takes_classes, -3), "classes -260": ("8 2 4", takes_classes, -260),
    "classes 40": ("2 2", takes_classes, 40), "unit 61": ("1523 195", takes_unit, 61), "unit 5": ("3 1", takes_unit, 5),
    "minus 61": ("39 5", takes_minus, 61), "minus 28": ("none", takes_minus, 28), "minus 5": ("1 1", takes_minus, 5),
    "points e": ("5 1 5", takes_number, E), "points t": ("11 1 11", takes_number, T), "points a": ("4 2 2", takes_number, A),
    "order e 0,1": ("5", takes_order, E, (0, 1)), "order e -": ("1", takes_order, E, ()), "order a 2,0": ("2", takes_order, A, (2, 0)),
    "log e 0,1 2,5": ("2", takes_log, E, (0, 1), (2, 5)), "log e 0,1 -": ("0", takes_log, E, (0, 1), ()),
    "log a 0,0 2,0": ("none", takes_log, A, (0, 0), (2, 0)), "log e - 0,1": ("none", takes_log, E, (), (0, 1)),
    "prime 91": ("no", takes_prime, 91), "prime 97": ("yes", takes_prime, 97), "prime 1000003": ("yes", takes_prime, 1000003),
    "prime 2": ("yes", takes_prime, 2), "factors 12": ("2^2 3^1", takes_factors, 12), "factors 1": ("1", takes_factors, 1),
    "factors 1000003": ("1000003^1", takes_factors, 1000003), "factors 360": ("2^3 3^2 5^1", takes_factors, 360),
    "squares 2 1": ("yes", takes_two, 1), "squares 3 1": ("yes", takes_three, 1), "squares 4 1": ("yes", takes_four, 1),
    "squares 2 50": ("yes", takes_two, 50), "squares 2 21": ("no", takes_two, 21), "squares 3 14": ("yes", takes_three, 14),
    "squares 3 28": ("no", takes_three, 28), "squares 4 7": ("yes", takes_four, 7), "trace 12 2": ("-24", takes_trace, 12, 2),
    "trace 4 3": ("0", takes_trace, 4, 3), "trace 24 2": ("1080", takes_trace, 24, 2),
    "goes 4 1 240 2160": ("yes", takes_goes, (1, 240, 2160), 4), "goes 4 1 240 2161": ("no", takes_goes, (1, 240, 2161), 4),
    "goes 12 0 1 -24": ("yes", takes_goes, (0, 1, -24), 12),
}

# Lines that are refused: the text of the error.
ERRORS = {
    "show x": "refused name", "show form": "refused name", "reduce x": "refused name", "product f f x": "refused name",
    "product f x f": "refused name", "product x e y": "refused name", "twist e x": "refused name", "alike f x": "refused name",
    "alike x f": "refused name", "alike x y": "refused name", "value x 0": "refused name", "points x": "refused name",
    "order x 9,9": "refused name", "log x - -": "refused name", "cycle x": "refused name", "genus x": "refused name",
    "square x": "refused name", "product x e f": "refused kind", "product x f e": "refused kind", "twist x f": "refused kind",
    "reduce e": "refused kind", "alike f e": "refused kind", "alike e f": "refused kind", "value e 0": "refused kind",
    "cycle e": "refused kind", "genus e": "refused kind", "square e": "refused kind", "points f": "refused kind",
    "order f -": "refused kind", "log f - -": "refused kind", "prime 1": "refused small", "prime 0": "refused small",
    "prime -7": "refused small", "factors 0": "refused small", "factors -12": "refused small", "squares 2 0": "refused small",
    "squares 3 -1": "refused small", "squares 4 0": "refused small", "product x f k": "malformed", "product x k k": "malformed",
    "product x f i": "malformed", "alike f i": "malformed", "alike e a": "malformed", "value f 0": "malformed",
    "value f -1": "malformed", "value f 10001": "refused large", "value big 1": "refused large", "alike big big": "refused large",
    "alike wide wide": "refused large", "reduce wide": "refused large", "cycle f": "malformed", "cycle j": "refused cycle",
    "cycle wide": "refused large", "genus k": "malformed", "genus big": "refused large", "square k": "malformed",
    "square big": "refused large", "forms 0": "malformed", "forms 9": "malformed", "forms -1": "malformed",
    "forms -1000003": "refused large", "forms 1000001": "refused large", "classes 0": "malformed", "classes -10003": "refused large",
    "unit -3": "malformed", "unit 16": "malformed", "unit 1000001": "refused large", "minus -4": "malformed", "minus 7": "malformed",
    "minus 1000001": "refused large", "twelve 1000001": "refused large", "order e 1,1": "malformed", "order e 0,8": "malformed",
    "log e 0,1 1,1": "malformed", "log e 7,1 -": "malformed", "curves 8 0": "malformed", "curves 3 0": "malformed",
    "curves 250007 0": "refused large", "walk 37 5 8,0 8,0": "malformed", "walk 38 2 8,0 8,0": "malformed",
    "walk 503 2 8,0 8,0": "malformed", "walk 37 2 8,0 9,0": "malformed", "walk 37 2 0,0 8,0": "malformed",
    "prime 100000000000000000001": "refused large", "factors 100000000000000000001": "refused large",
    "squares 2 1000000000001": "refused large", "squares 3 1000000000001": "refused large", "squares 4 1000000000001": "refused large",
    "trace 2 1": "malformed", "trace 13 1": "malformed", "trace 12 0": "malformed", "trace 12 401": "malformed",
    "row 3 2": "malformed", "row 24 4": "malformed", "row 24 149": "refused large", "tau 0": "malformed", "tau 400": "malformed",
    "goes 5 1": "malformed", "goes 12 1": "refused short", "goes 2 1": "malformed", "goes 4" + " 1" * 401: "malformed",
    "x": "text", "form f = 1 2 1": "text", "curve e = 7 0 0": "text", "squares 5 7": "text", "goes 4": "text", "Show f": "text",
    " # x": "text", "show f g": "text", "\t": "text", "show\tf": "text", "x" * 2001: "text",
}
WALKS = {"walk 37 2 3,10 8,0": ((3, 10), (8, 0)), "walk 37 2 8,0 8,0": ((8, 0),), "walk 37 3 3,10 3,27": ((3, 10), (3, 27))}


class Replies(unittest.TestCase):
    def check(self, reply, kind, text, data=()):
        self.assertEqual((type(reply), reply.kind, reply.text), (Reply, kind, text))
        self.assertEqual((reply.data, type(reply.data)), (data, tuple))

    def test_plain(self):
        for line, (kind, text) in PLAIN.items():
            self.check(reply_to(NAMES, line), kind, text)

    def test_papers(self):
        for line, (text, judge, *arguments) in PAPERS.items():
            reply = reply_to(NAMES, line)
            self.check(reply, line.split()[0], text, reply.data)
            self.assertIs(judge(*arguments, reply.data), True, line)

    def test_errors(self):
        for line, text in ERRORS.items():
            self.check(reply_to(NAMES, line), "error", text)
        for value in slow.ODD_VALUES + NO_PAPERS:
            if not isinstance(value, str):
                self.check(reply_to(NAMES, value), "error", "text")
                self.assertIsNone(defined(NAMES, value))

    def test_walks(self):
        for line, told in WALKS.items():
            reply = reply_to(NAMES, line)
            self.check(reply, "walk", str(len(told) - 1), reply.data)
            self.assertEqual((len(reply.data), reply.data[0], reply.data[-1]), (len(told), told[0], told[-1]))

    def test_every_line_of_the_sheet(self):
        for line in LINES:
            reply = reply_to({}, line)
            self.assertIn(reply.kind, ("form", "curve", "number", "row", "error", "classes", "unit", "minus", "prime", "factors",
                                       "squares", "trace", "goes", "walk"))
            self.assertNotEqual(reply.text, "text")
            if reply.kind == "error" and line.split()[0] not in ("squares",):
                self.assertEqual(reply.text, "refused name")

    def test_names_are_not_changed(self):
        for line in itertools.chain(PLAIN, PAPERS, ERRORS, WALKS):
            names = copy.deepcopy(NAMES)
            one = reply_to(names, line)
            told = defined(names, line)
            self.assertEqual(names, NAMES)
            self.assertEqual((reply_to(names, line), defined(names, line)), (one, told))

    def test_a_name_of_another_kind(self):
        # Definitions alone tell what a name is.
        self.check(reply_to({"e": ("form", (7, 1, 1))}, "show e"), "form", "7 1 1")
        self.check(reply_to({"e": ("form", (7, 1, 1))}, "points e"), "error", "refused kind")
        self.check(reply_to({"e": ("form", (7, 1, 1)), "f": ("curve", (7, 1, 1))}, "alike e f"), "error", "refused kind")

    def test_great_integers(self):
        self.check(reply_to({}, "tau " + "9" * 1900), "error", "malformed")
        self.check(reply_to({}, "prime " + "9" * 1900), "error", "refused large")
        self.check(reply_to({}, "twelve -" + "9" * 1900), "number", "0")
        self.check(reply_to(NAMES, "value f " + "9" * 1900), "error", "refused large")
        self.check(reply_to(NAMES, "curves " + "9" * 1900 + " 1"), "error", "malformed")
        self.check(reply_to(NAMES, "curves 7 " + "9" * 1900), "number", "0")
        self.check(reply_to(NAMES, "order e " + "9" * 900 + "," + "9" * 900), "error", "malformed")
        reply = reply_to({}, "goes 12 " + "9" * 1900 + " 1")
        self.check(reply, "goes", "yes", ("goes", (int("9" * 1900), 1 - 720 * int("9" * 1900))))


class Definitions(unittest.TestCase):
    def test_defined(self):
        for line, told in (("form x = 2 1 3", ("x", ("form", F))), ("curve f = 7 1 1", ("f", ("curve", E))),
                           ("product x f f", ("x", ("form", G))), ("product f f g", ("f", ("form", (1, 1, 6)))),
                           ("twist e e", ("e", ("curve", T))), ("  twist  x  t ", ("x", ("curve", (7, 2 * 9 % 7, 6 * 27 % 7))))):
            self.assertEqual(defined(NAMES, line), told)
        for line in itertools.chain(PAPERS, ERRORS, WALKS):
            self.assertIsNone(defined(NAMES, line), line)
        for line in PLAIN:
            if line.split()[:1] not in (["form"], ["curve"], ["product"], ["twist"]):
                self.assertIsNone(defined(NAMES, line), line)


class Equality(unittest.TestCase):
    def test_fields(self):
        reply = Reply("a", "b", (1, (2, "c")))
        self.assertEqual((reply.kind, reply.text, reply.data), ("a", "b", (1, (2, "c"))))
        self.assertEqual((Reply("a").text, Reply("a").data), ("", ()))
        self.assertEqual((Reply(kind="a", data=(1,), text="t").text, Reply("a", "t").data), ("t", ()))

    def test_equal(self):
        self.assertTrue(Reply("a") == Reply("a", "", ()))
        self.assertIs(Reply("a", "b", (1,)) == Reply("a", "b", (1,)), True)
        for other in (Reply("b", "b", (1,)), Reply("a", "c", (1,)), Reply("a", "b", (2,)), Reply("a", "b"), Reply("a", "b", [1]),
                      Reply(None), Reply("a", "b", ("1",))):
            self.assertIs(Reply("a", "b", (1,)) == other, False)
            self.assertIs(Reply("a", "b", (1,)) != other, True)
        for value in slow.ODD_VALUES + NO_PAPERS + (("a", "b", (1,)), Console(), Fault("a"), Malformed, NoText(0), Refused("a")):
            self.assertIs(Reply("a", "b", (1,)) == value, False)
        deep = slow.nested(60)
        self.assertIs(Reply("a", "b", deep) == Reply("a", "b", slow.nested(60)), True)
        self.assertIs(Reply("a", "b", deep) == Reply("a", "b", slow.nested(59)), False)

    def test_errors(self):
        self.assertTrue(issubclass(Refused, Fault))


class Right(unittest.TestCase):
    def right(self, line, reply, names=NAMES):
        self.assertIs(is_right(names, (line, reply)), True, (line, reply.text, reply.data))

    def wrong(self, line, reply, names=NAMES):
        self.assertIs(is_right(names, (line, reply)), False, line)

    def test_all_replies(self):
        for line in itertools.chain(PLAIN, PAPERS, ERRORS, WALKS):
            reply = reply_to(NAMES, line)
            self.right(line, reply)
            self.wrong(line, Reply(reply.kind + "s", reply.text, reply.data))
            self.wrong(line, Reply(reply.kind, reply.text + " ", reply.data))
            self.wrong(line, Reply(reply.kind, reply.text + "1", reply.data))
            self.wrong(line, Reply(reply.kind, None, reply.data))
            self.wrong(line, Reply(reply.kind, reply.text, list(reply.data)))
            self.wrong(line, Reply(reply.kind, reply.text, reply.data + (1,)))
            self.wrong(line, Reply("error", "text") if reply.text != "text" else Reply("done"))
            self.wrong(line, Reply("done") if reply.kind != "done" else Reply("number", "1"))

    def test_values_that_are_no_line(self):
        for value in slow.ODD_VALUES + NO_PAPERS:
            if not isinstance(value, str):
                self.right(value, Reply("error", "text"))
                self.wrong(value, Reply("error", "malformed"))
                self.wrong(value, Reply("done"))

    def test_no_entries(self):
        reply = reply_to(NAMES, "tau 6")
        for value in slow.ODD_VALUES + NO_PAPERS + (
                ["tau 6", reply], ("tau 6",), ("tau 6", reply, reply), (reply, "tau 6"), ("tau 6", "-6048"), reply,
                ("tau 6", ("number", "-6048", ())), ("tau 6", None), {"tau 6": reply}, ("tau 6", [reply])):
            self.assertIs(is_right(NAMES, value), False)
        for line in itertools.chain(PLAIN, PAPERS, ERRORS, WALKS):
            told = reply_to(NAMES, line)
            for value in (None, told.kind, (told.kind, told.text, told.data), [told], (told,), line):
                self.assertIs(is_right(NAMES, (line, value)), False)

    def test_spoilt_papers(self):
        for line in PAPERS:
            reply = reply_to(NAMES, line)
            size = 0
            for bent in bends(reply.data):
                size += 1
                if size < 40 or size % 7 == 0:
                    self.wrong(line, Reply(reply.kind, reply.text, bent))
            for value in NO_PAPERS:
                if value != reply.data and PAPERS[line][1](*PAPERS[line][2:], value) is False:
                    self.wrong(line, Reply(reply.kind, reply.text, value))

    def test_papers_of_other_lines(self):
        replies = {line: reply_to(NAMES, line) for line in PAPERS}
        for line, other in itertools.permutations(PAPERS, 2):
            text, judge, *arguments = PAPERS[line]
            fits = line.split()[0] == other.split()[0] and judge(*arguments, replies[other].data)
            if not fits:
                self.wrong(line, replies[other])

    def test_other_right_papers(self):
        minus = ((-1, 0), (0, -1))
        for line, text, paper in (
                ("alike f f", "yes", ("same", minus)), ("value f 6", "yes", ("value", 1, 1)),
                ("squares 2 50", "yes", ("squares", 5, -5)), ("squares 2 50", "yes", ("squares", 7, 1)),
                ("squares 3 14", "yes", ("squares", -3, 1, 2)), ("squares 4 7", "yes", ("squares", 2, 1, -1, 1)),
                ("prime 91", "no", ("factor", 13)), ("prime 91", "no", ("witness", 2)),
                ("prime 97", "yes", ("powers", ((2, 5, ("small",)),))), ("minus 5", "4 2", ("minus", 4, 2)),
                ("minus 5", "11 5", ("minus", 11, 5)), ("log e 0,1 2,5", "7", ("log", 7)), ("log e 0,1 -", "5", ("log", 5)),
                ("goes 4 1 240 2161", "no", ("bar", (1,), 2)), ("alike e w", "yes", ("same", 5)),
                ("factors 97", "97^1", ("factors", ((97, 1, ("powers", ((2, 5, ("small",)),))),)))):
            self.right(line, Reply(line.split()[0], text, paper))
            for other in ("yes", "no", "none", "", text + " 1", "2", "1 1"):
                if other != text:
                    self.wrong(line, Reply(line.split()[0], other, paper))

    def test_text_that_belongs_to_another_paper(self):
        # The integers of the text are those of the paper, not those of the maker.
        self.wrong("minus 5", Reply("minus", "1 1", ("minus", 4, 2)))
        self.wrong("log e 0,1 2,5", Reply("log", "2", ("log", 7)))
        self.wrong("minus 5", Reply("minus", "4 2", ("minus", 1, 1)))

    def test_integers_without_a_written_form(self):
        # 5 10^4000 has 4001 digits, so no text belongs to it; one digit less does.
        for k, fits in ((5 * 10 ** 4000, False), (10 ** 4000 - 10 ** 4000 % 5 - 5, True), (5 * 10 ** 5000, False)):
            if k % 5 == 0:
                paper = ("log", k)
                self.assertIs(takes_log(E, (0, 1), (), paper), True)
                self.assertIs(is_right(NAMES, ("log e 0,1 -", Reply("log", "0", paper))), False)
                self.assertIs(is_right(NAMES, ("log e 0,1 -", Reply("log", None, paper))), False)
                self.assertIs(is_right(NAMES, ("log e 0,1 -", Reply("log", "none", paper))), False)
                if fits:
                    self.right("log e 0,1 -", Reply("log", str(k), paper))

    def test_walks(self):
        for line in ("walk 101 2 {} {}", "walk 101 3 {} {}", "walk 37 2 {} {}"):
            p, l = map(int, line.split()[1:3])
            members = [(x, y) for x in range(p) for y in range(p)]
            start = {101: (0, 0), 37: (8, 0)}[p]
            near, ahead = {start: 0}, [start]
            while ahead:
                u = ahead.pop(0)
                for v in members:
                    if v not in near and joining_value(p, l, u, v) == (0, 0):
                        near[v] = near[u] + 1
                        ahead.append(v)
            for end in list(near)[:5] + list(near)[-2:]:
                text = line.format("{},{}".format(*start), "{},{}".format(*end))
                walks = [(start,)]
                for _ in range(near[end]):
                    walks = [walk + (v,) for walk in walks for v in near if joining_value(p, l, walk[-1], v) == (0, 0)]
                walks = [walk for walk in walks if walk[-1] == end]
                self.assertEqual(reply_to({}, text).text, str(near[end]))
                for walk in walks:
                    self.right(text, Reply("walk", str(near[end]), walk))
                    self.wrong(text, Reply("walk", str(near[end] + 1), walk))
                    self.wrong(text, Reply("walk", str(near[end]), walk + (end,)))
                    self.wrong(text, Reply("walk", str(near[end]), walk[1:]))
                    self.wrong(text, Reply("walk", str(near[end]), walk[::-1]) if near[end] else Reply("walk", "0", ()))
                    self.wrong(text, Reply("walk", str(near[end]), tuple(map(list, walk))))
                    self.wrong(text, Reply("walk", str(near[end]), walk[:-1] + ((walk[-1][0] + p, walk[-1][1]),)))
                    if 0 in walk[0]:
                        bent = tuple(False if item == 0 else item for item in walk[0])
                        self.wrong(text, Reply("walk", str(near[end]), (bent,) + walk[1:]))
                    # Longer walks are walks, too, but not with as few items as there can be.
                    longer = walk + (walk[-2], walk[-1]) if len(walk) > 1 else walk
                    if len(longer) > len(walk):
                        self.wrong(text, Reply("walk", str(len(longer) - 1), longer))
                        self.wrong(text, Reply("walk", str(near[end]), longer))
                for u in near:
                    # Walks of the same length that begin elsewhere.
                    for walk in walks[:2]:
                        if u != start:
                            self.wrong(text, Reply("walk", str(near[end]), (u,) + walk[1:]))
                        if u != end:
                            self.wrong(text, Reply("walk", str(near[end]), walk[:-1] + (u,)))
                for at in range(1, near[end]):
                    # A step that is none in the midst of the walk.
                    for v in list(near)[:6]:
                        spoilt = walks[0][:at] + (v,) + walks[0][at + 1:]
                        if spoilt not in walks:
                            self.wrong(text, Reply("walk", str(near[end]), spoilt))

    def test_refused_lines(self):
        # A paper does not help where carrying out raises an error.
        for line, paper in (("alike f x", ("same", ((1, 0), (0, 1)))), ("prime 1", ("factor", 1)), ("points f", ("number",)),
                            ("value f 0", ("value", 0, 0)), ("squares 2 0", ("squares", 0, 0)), ("tau 0", ()),
                            ("squares 2 1000000000001", ("squares", 1, 1000000)), ("goes 12 1", ("goes", (1, 0)))):
            for text in ("yes", "no", "none", ""):
                self.wrong(line, Reply(line.split()[0], text, paper))
            self.right(line, Reply("error", ERRORS[line]))

    def test_other_definitions(self):
        reply = reply_to(NAMES, "alike f g")
        self.right("alike f g", reply)
        self.wrong("alike f g", reply, {})
        self.wrong("alike f g", reply, {"f": ("form", F)})
        self.wrong("alike f g", reply, {"f": ("form", F), "g": ("form", F)})
        self.wrong("alike f g", reply, {"f": ("curve", E), "g": ("curve", E)})
        self.right("alike f g", Reply("error", "refused name"), {})


if __name__ == "__main__":
    unittest.main()
