"""The errors of the package."""


class FlowError(ValueError):
    """The base class of all errors."""


class BadProgram(FlowError):
    """A value that is no program: part is None for no pair, 0 for the sorts, 1 for the body."""

    def __init__(self, part):
        super().__init__("no program")
        self.part = part


class BadDesign(FlowError):
    """A value that is no design."""


class BadStart(FlowError):
    """A value that is no start of the program."""


class NotMade(FlowError):
    """Arguments that are right one by one, but of which nothing can be made."""


class NotText(FlowError):
    """A value that is no string."""


class InvalidText(FlowError):
    """A text that cannot be read: line is the number, from 1, of the first line that cannot stand."""

    def __init__(self, line):
        super().__init__("no such text")
        self.line = line


class NotNow(FlowError):
    """A line that a desk cannot follow as it is now."""


class NothingToUndo(FlowError):
    """A desk without a change that could be taken back."""
