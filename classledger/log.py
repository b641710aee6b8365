"""The written forms of plain data and of logs, and the judge of lists of entries."""

from classledger.errors import Malformed, NoText
from classledger.replies import Reply, defined, is_right
from classledger.sheet import is_lower
from classledger.whole import is_integer, read_integer, written

LONGEST_LABEL = 12
DEEPEST = 60

# How the three lines of an entry begin.
BEGINNINGS = ("> ", "= ", "# ")


def _is_label(value):
    """Return True if the value is a label."""
    return isinstance(value, str) and is_lower(value, LONGEST_LABEL)


def write_data(data):
    """Return the written form of plain data."""
    return _written_data(data, DEEPEST)


def _written_data(data, deep):
    """Return the written form of plain data that are nested at most so deep."""
    if isinstance(data, tuple) and deep:
        return "(" + " ".join([_written_data(item, deep - 1) for item in data]) + ")"
    if _is_label(data):
        return data
    text = written(data) if is_integer(data) else None
    if text is None:
        raise Malformed("no plain data")
    return text


def read_data(text):
    """Return the plain data with this written form."""
    if not isinstance(text, str):
        raise NoText(0)
    # The innermost open tuple stands last; the first list is for the data themselves.
    lists = [[]]
    for token in text.replace("(", "( ").replace(")", " )").split(" "):
        if token == "(" and len(lists) <= DEEPEST:
            lists.append([])
        elif token == ")" and len(lists) > 1:
            items = lists.pop()
            lists[-1].append(tuple(items))
        elif _is_label(token):
            lists[-1].append(token)
        elif token:
            lists[-1].append(read_integer(token))
    # Spaces at other places than between items do not come out again.
    if len(lists) != 1 or len(lists[0]) != 1 or write_data(lists[0][0]) != text:
        raise NoText(0)
    return lists[0][0]


def _is_row(value):
    """Return True if the value is a string without a line feed."""
    return isinstance(value, str) and "\n" not in value


def _written_entry(entry):
    """Return the written form of an entry."""
    if not isinstance(entry, tuple) or len(entry) != 2:
        raise Malformed("no entry")
    line, reply = entry
    if not _is_row(line) or not isinstance(reply, Reply):
        raise Malformed("no entry")
    if not _is_label(reply.kind) or not _is_row(reply.text) or not isinstance(reply.data, tuple):
        raise Malformed("no reply")
    data = write_data(reply.data)
    return f"> {line}\n= {reply.kind} {reply.text}\n# {data}\n"


def write_log(entries):
    """Return the written form of a list of entries."""
    return "".join([_written_entry(entry) for entry in entries])


def _read_row(place, row):
    """Return what a line tells at its place in an entry; raise NoText if it has not the form."""
    beginning = BEGINNINGS[place]
    if not row.startswith(beginning):
        raise NoText(0)
    told = row[len(beginning):]
    if place == 0:
        return told
    if place == 1:
        kind, space, text = told.partition(" ")
        if not space or not _is_label(kind):
            raise NoText(0)
        return kind, text
    data = read_data(told)
    if not isinstance(data, tuple):
        raise NoText(0)
    return data


def _read_rows(rows):
    """Return the list of what the lines tell, each at its place."""
    told = []
    for at, row in enumerate(rows):
        try:
            told.append(_read_row(at % 3, row))
        except NoText:
            raise NoText(at)
    return told


def read_log(text):
    """Return the list of entries with this written form."""
    if not isinstance(text, str):
        raise NoText(0)
    *rows, last = text.split("\n")
    told = _read_rows(rows)
    if last or len(rows) % 3:
        raise NoText(len(rows))
    entries = []
    for at in range(0, len(told), 3):
        kind, note = told[at + 1]
        entries.append((told[at], Reply(kind, note, told[at + 2])))
    return entries


def first_wrong(entries):
    """Return the index of the first item that is no right entry, or -1."""
    names = {}
    for at, entry in enumerate(entries):
        if not is_right(names, entry):
            return at
        definition = defined(names, entry[0])
        if definition is not None:
            name, meaning = definition
            names[name] = meaning
    return -1
