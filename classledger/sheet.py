"""Worksheets: the lines and the commands that they tell."""

from classledger.curves import is_curve
from classledger.errors import NoText
from classledger.forms import is_form
from classledger.whole import read_integer

LONGEST_LINE = 2000
LONGEST_NAME = 8
LETTERS = "abcdefghijklmnopqrstuvwxyz"

# What stands behind the first token of each line but "goes".
SHAPES = {
    "form": "name = integer integer integer",
    "curve": "name = integer integer integer",
    "product": "name name name",
    "twist": "name name",
    "show": "name",
    "reduce": "name",
    "alike": "name name",
    "value": "name integer",
    "cycle": "name",
    "genus": "name",
    "square": "name",
    "forms": "integer",
    "classes": "integer",
    "unit": "integer",
    "minus": "integer",
    "twelve": "integer",
    "points": "name",
    "order": "name point",
    "log": "name point point",
    "curves": "integer integer",
    "walk": "integer integer pair pair",
    "prime": "integer",
    "factors": "integer",
    "squares": "integer integer",
    "trace": "integer integer",
    "row": "integer integer",
    "tau": "integer",
}


def _is_line(value):
    """Return True if the value is a line."""
    return isinstance(value, str) and len(value) <= LONGEST_LINE and all([" " <= sign <= "~" for sign in value])


def is_lower(text, most):
    """Return True if the text consists of 1 to so many small letters."""
    return 1 <= len(text) <= most and all([sign in LETTERS for sign in text])


def _read_name(token):
    """Return the name that the token is."""
    if not is_lower(token, LONGEST_NAME):
        raise NoText(0)
    return token


def _read_pair(token):
    """Return the pair of integers from 0 on that the token tells."""
    first, _, second = token.partition(",")
    pair = (read_integer(first), read_integer(second))
    if min(pair) < 0:
        raise NoText(0)
    return pair


def _read_token(kind, token):
    """Return what a token of this kind tells."""
    if kind == "name":
        return _read_name(token)
    if kind == "integer":
        return read_integer(token)
    if kind == "point" and token == "-":
        return ()
    if kind in ("point", "pair"):
        return _read_pair(token)
    if token != kind:
        raise NoText(0)
    return token


def _read_tokens(word, tokens):
    """Return the tuple of what the tokens behind a word tell, each read as its shape says."""
    kinds = SHAPES[word].split()
    if len(tokens) != len(kinds):
        raise NoText(0)
    return tuple([_read_token(kind, token) for kind, token in zip(kinds, tokens)])


def _read_definition(word, tokens):
    """Return the command of a line that names a form or a curve."""
    name, _, *items = _read_tokens(word, tokens)
    told = tuple(items)
    if not (is_form(told) if word == "form" else is_curve(told)):
        raise NoText(0)
    return (word, name, told)


def read_line(line):
    """Return the command of a line as a tuple."""
    if not _is_line(line):
        raise NoText(0)
    tokens = line.split()
    if not tokens or line[0] == "#":
        return ("empty",)
    word, *left = tokens
    if word in ("form", "curve"):
        return _read_definition(word, left)
    if word == "goes" and len(left) > 1:
        weight, *items = [read_integer(token) for token in left]
        return (word, weight, tuple(items))
    if word not in SHAPES:
        raise NoText(0)
    command = (word,) + _read_tokens(word, left)
    if word == "squares" and not 2 <= command[1] <= 4:
        raise NoText(0)
    return command
