"""The console: it keeps definitions and entries."""

from classledger.errors import Refused
from classledger.log import write_log
from classledger.replies import defined, reply_to


class Console:
    """Definitions, and entries of lines and replies."""

    def __init__(self, *, most=300):
        self._most = most
        self._names = {}
        self._entries = []

    def enter(self, line):
        """Enter a line and return the reply."""
        if len(self._entries) >= self._most:
            raise Refused("lines")
        reply = reply_to(self._names, line)
        definition = defined(self._names, line)
        if definition is not None:
            name, meaning = definition
            self._names[name] = meaning
        self._entries.append((line, reply))
        return reply

    def __len__(self):
        return len(self._entries)

    def __iter__(self):
        return iter(self._entries)

    def names(self):
        """Return a new dict from the defined names to what they mean."""
        return dict(self._names)

    def log(self):
        """Return the written form of the log."""
        return write_log(self._entries)
