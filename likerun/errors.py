"""All errors of the package."""


class LikerunError(ValueError):
    """The base of the errors that the package raises for what it is given."""


class SourceError(LikerunError):
    """A fault in a source text, with its place."""

    def __init__(self, line, column):
        self.line = line
        self.column = column


class BadSign(SourceError):
    """A character that no source text may hold."""


class BadToken(SourceError):
    """Characters that are no token, or a bracket that does not fit."""


class BadIndent(SourceError):
    """An indentation that fits no block."""


class TooLong(SourceError):
    """A text, a line or a logical line beyond its limit."""


class TooDeep(SourceError):
    """Blocks, parts of expressions or elif parts beyond their limit."""


class BadSyntax(SourceError):
    """A token where the grammar has no place for it."""


class BadScope(SourceError):
    """A statement or a name in a unit that has no place for it."""


class BadDatum(LikerunError):
    """A string that is no datum note."""


class BadSave(LikerunError):
    """A string that is no saved run."""


class BadOption(LikerunError):
    """An option of a run that is out of its range."""

    def __init__(self, option):
        self.option = option


class BadCode(LikerunError):
    """Codes that break a rule of the checker."""

    def __init__(self, unit):
        self.unit = unit


class BadPaper(LikerunError):
    """A paper that is refused."""

    def __init__(self, paper):
        self.paper = paper


class UnknownPass(LikerunError):
    """A word that is no pass of the optimiser."""

    def __init__(self, word):
        self.word = word


class BadLevel(LikerunError):
    """A number of a frame, a step or a line that is not there."""

    def __init__(self, level):
        self.level = level


class Fault(Exception):
    """An operation of the language that fails: the error class's name and the message."""

    def __init__(self, name, value):
        self.name = name
        self.value = value


class MachineFault(Exception):
    """A machine that finds what no checked code lets it find."""
