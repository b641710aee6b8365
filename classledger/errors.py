"""The errors that the program raises."""


class Fault(ValueError):
    """The base class of all errors that the program raises."""


class Malformed(Fault):
    """An argument does not have the form that the document asks for."""


class Refused(Fault):
    """Arguments of the right form that the program does not take, with the reason."""

    def __init__(self, reason):
        self.reason = reason


class NoText(Fault):
    """A text that is not the written form of anything, with the place."""

    def __init__(self, at):
        self.at = at
