"""The errors of the package."""


class MarkError(ValueError):
    """A value is not what it has to be; takes a message."""


class InvalidText(MarkError):
    """Not a text, or not a word."""


class InvalidRewriter(MarkError):
    """Not a rewriter."""


class InvalidMachine(MarkError):
    """Not marks, or not a machine."""


class InvalidBook(MarkError):
    """Not a rule, or not a book of rules."""


class InvalidOperation(MarkError):
    """What is asked for cannot be done with these values."""


class InvalidEdit(MarkError):
    """Not an edit, or not a step of edits."""


class ParseError(MarkError):
    """Not the text of a value."""


class InvalidCommand(MarkError):
    """Not a command of the shell."""


class InvalidNumber(IndexError):
    """Not a number that can stand here; keeps the value."""

    def __init__(self, value):
        self.value = value


class UnknownName(KeyError):
    """Nothing has this name; keeps the name."""

    def __init__(self, name):
        self.name = name


class TooMany(OverflowError):
    """More than a limit; keeps the limit."""

    def __init__(self, limit):
        self.limit = limit


class NotSingle(ArithmeticError):
    """A rewriter has two results for a text; keeps the paper that shows it."""

    def __init__(self, paper):
        self.paper = paper


class NeedsMarks(RuntimeError):
    """One pass is not enough; keeps the fork that shows it."""

    def __init__(self, fork):
        self.fork = fork


class NothingToUndo(LookupError):
    """Fewer steps can be taken back, or made again; keeps how many were asked for."""

    def __init__(self, many):
        self.many = many
