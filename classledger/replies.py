"""Replies to the lines of worksheets, and the judge of entries."""

from classledger.census import curves_with
from classledger.classes import class_product
from classledger.curvechecker import takes_curves, takes_log, takes_number, takes_order
from classledger.curvepapers import alike_paper, log_paper, number_paper, order_paper
from classledger.curves import twist_of
from classledger.cycles import turns_of
from classledger.definite import class_number, hurwitz
from classledger.errors import Fault, Malformed, NoText, Refused
from classledger.formchecker import (
    takes_classes, takes_minus, takes_same, takes_square, takes_unit, takes_value)
from classledger.formpapers import classes_paper, minus_paper, same_paper, square_paper, unit_paper, value_paper
from classledger.genera import genus_of
from classledger.graphs import graph_walk
from classledger.hecke import tau
from classledger.members import is_member, joining_value
from classledger.primechecker import takes_factors, takes_four, takes_prime, takes_three, takes_two
from classledger.proofs import factors_paper, prime_paper
from classledger.same import told_form
from classledger.serieschecker import takes_goes, takes_trace
from classledger.seriespapers import goes_paper, trace_paper
from classledger.sheet import read_line
from classledger.squares import four_squares, three_squares, two_squares
from classledger.traces import characteristic_by_classes
from classledger.units import narrow_number
from classledger.whole import written

# The kind of object that the first name of a command stands for; for "product" the names behind NAME.
USES = {
    "product": "form", "twist": "curve", "reduce": "form", "value": "form", "cycle": "form", "genus": "form",
    "square": "form", "points": "curve", "order": "curve", "log": "curve"}

# The least N of the lines that need one.
LEAST = {"prime": 2, "factors": 1, "squares": 1}

# The first words of the papers to which the text "yes" belongs.
YES = {
    "alike": ("same",), "value": ("value",), "square": ("root",), "prime": ("small", "powers", "curve"),
    "squares": ("squares",), "goes": ("goes",)}

PAPERS = (
    "alike", "value", "square", "classes", "unit", "minus", "points", "order", "log", "prime", "factors", "squares",
    "trace", "goes")


class Reply:
    """What a line is answered with: a kind, a text and data."""

    def __init__(self, kind, text="", data=()):
        self.kind = kind
        self.text = text
        self.data = data

    def __eq__(self, other):
        return (isinstance(other, Reply) and self.kind == other.kind and self.text == other.text
                and self.data == other.data)


def _names_of(command):
    """Return the tuple of the names that a command uses, NAME left out."""
    first = 2 if command[0] in ("product", "twist") else 1
    return tuple([item for item in command[first:] if isinstance(item, str)])


def _objects(names, command):
    """Return the list of the pairs of a word and a form or a curve that a command uses."""
    used = _names_of(command)
    if not all([name in names for name in used]):
        raise Refused("name")
    told = [names[name] for name in used]
    kind = USES.get(command[0])
    if command[0] == "alike":
        kind = told[0][0]
    if kind is not None and not all([word == kind for word, _ in told]):
        raise Refused("kind")
    return told


def _arguments(names, command):
    """Return the list of what a command asks with: forms and curves, then integers, points and members."""
    objects = [thing for _, thing in _objects(names, command)]
    word = command[0]
    if word in LEAST and command[-1] < LEAST[word]:
        raise Refused("small")
    return objects + [item for item in command[1:] if not isinstance(item, str)]


def _joined(numbers):
    """Return the written forms of integers joined by spaces, None if one of them has none."""
    texts = [written(number) for number in numbers]
    return None if None in texts else " ".join(texts)


def _defined_by(names, command):
    """Return the pair of the name and what it means that a command defines, or None."""
    word = command[0]
    if word in ("form", "curve"):
        return command[1], (word, command[2])
    if word not in ("product", "twist"):
        return None
    arguments = _arguments(names, command)
    told = ("form", class_product(*arguments)) if word == "product" else ("curve", twist_of(*arguments))
    return command[1], told


def defined(names, line):
    """Return the pair of the name and what it means that a line defines, or None."""
    try:
        return _defined_by(names, read_line(line))
    except Fault:
        return None


def _tools(names, command):
    """Return the maker and the judge of the papers that answer a command."""
    word = command[0]
    if word == "alike":
        kind, _ = names[command[1]]
        return (same_paper, takes_same) if kind == "form" else (alike_paper, takes_curves)
    if word == "squares":
        sums = {2: (two_squares, takes_two), 3: (three_squares, takes_three), 4: (four_squares, takes_four)}
        return sums[command[1]]
    tools = {
        "value": (value_paper, takes_value), "square": (square_paper, takes_square),
        "classes": (classes_paper, takes_classes), "unit": (unit_paper, takes_unit),
        "minus": (minus_paper, takes_minus), "points": (number_paper, takes_number),
        "order": (order_paper, takes_order), "log": (log_paper, takes_log),
        "prime": (prime_paper, takes_prime), "factors": (factors_paper, takes_factors),
        "trace": (trace_paper, takes_trace), "goes": (goes_paper, takes_goes)}
    return tools[word]


def _shown_arguments(names, command):
    """Return the list of what the maker and the judge of the papers of a command are asked with."""
    arguments = _arguments(names, command)
    if command[0] == "squares":
        return arguments[1:]
    if command[0] == "goes":
        return arguments[::-1]
    return arguments


def _factors_text(rows):
    """Return the text of the rows of a paper of factors."""
    return " ".join([f"{p}^{k}" for p, k, _ in rows]) or "1"


def _numbers_in(word, paper):
    """Return the tuple of the integers that the text belonging to a paper tells."""
    if word == "classes":
        return (len(paper[3]),) + paper[1]
    if word == "points":
        _, n, _, m = paper[1]
        return (m * n, m, n)
    if word in ("unit", "minus"):
        return paper[1:3]
    return paper[1:2]


def _text_of(word, paper):
    """Return the text that belongs to a paper that holds, None if an integer in it has no written form."""
    if word in YES:
        return "yes" if paper[0] in YES[word] else "no"
    if word == "factors":
        return _factors_text(paper[1])
    if paper[0] == "none":
        return "none"
    return _joined(_numbers_in(word, paper))


def _number(word, arguments):
    """Return the number that answers a command."""
    if word == "forms":
        D = arguments[0]
        return class_number(D) if D < 0 else narrow_number(D)
    if word == "twelve":
        return hurwitz(*arguments)
    if word == "curves":
        return curves_with(*arguments)
    return tau(*arguments)


def _counted(word, arguments):
    """Return the reply without data to a command that defines nothing."""
    if word == "reduce":
        return Reply("form", _joined(told_form(*arguments)[0]))
    if word == "cycle":
        return Reply(word, _joined(turns_of(*arguments)))
    if word == "genus":
        return Reply(word, _joined(genus_of(*arguments)))
    if word == "row":
        return Reply(word, _joined(characteristic_by_classes(*arguments)))
    return Reply("number", _joined([_number(word, arguments)]))


def _answer(names, command):
    """Return the reply to a command."""
    word = command[0]
    if word == "empty":
        return Reply("done")
    definition = _defined_by(names, command)
    if definition is not None or word == "show":
        kind, items = _objects(names, command)[0] if word == "show" else definition[1]
        return Reply(kind, _joined(items))
    if word in PAPERS:
        arguments = _shown_arguments(names, command)
        maker, _ = _tools(names, command)
        paper = maker(*arguments)
        return Reply(word, _text_of(word, paper), paper)
    arguments = _arguments(names, command)
    if word == "walk":
        walk = graph_walk(*arguments)
        return Reply(word, written(len(walk) - 1), walk)
    return _counted(word, arguments)


def reply_to(names, line):
    """Return the reply to a line."""
    try:
        return _answer(names, read_line(line))
    except NoText:
        return Reply("error", "text")
    except Malformed:
        return Reply("error", "malformed")
    except Refused as fault:
        return Reply("error", f"refused {fault.reason}")


def is_right(names, entry):
    """Return True if an entry is right over definitions."""
    if not isinstance(entry, tuple) or len(entry) != 2 or not isinstance(entry[1], Reply):
        return False
    line, reply = entry
    told = reply_to(names, line)
    if told.kind in PAPERS:
        return _is_right_paper(names, read_line(line), reply)
    if told.kind == "walk":
        return _is_right_walk(read_line(line), told, reply)
    return reply == told


def _is_right_paper(names, command, reply):
    """Return True if a reply with a paper answers a command."""
    word = command[0]
    arguments = _shown_arguments(names, command)
    _, judge = _tools(names, command)
    if reply.kind != word or not judge(*arguments, reply.data):
        return False
    text = _text_of(word, reply.data)
    return text is not None and reply.text == text


def _is_right_walk(command, told, reply):
    """Return True if a reply with a walk answers a command, beside a told reply with a shortest walk."""
    _, p, l, j, k = command
    walk = reply.data
    if reply.kind != told.kind or reply.text != told.text or not isinstance(walk, tuple):
        return False
    if len(walk) != len(told.data) or not all([is_member(p, u) for u in walk]) or walk[0] != j or walk[-1] != k:
        return False
    return all([joining_value(p, l, u, v) == (0, 0) for u, v in zip(walk, walk[1:])])
