"""What several test files use."""

import unittest

from likerun.errors import SourceError
from likerun.trees import read_tree


class SourceCase(unittest.TestCase):
    """Tests of functions that read source texts."""

    def assert_same(self, found, wanted):
        """The values are equal, and so are the kinds of all that they hold."""
        self.assertEqual(found, wanted)
        # True and 1 are equal, but they are not written alike.
        self.assertEqual(repr(found), repr(wanted))

    def assert_refused(self, reader, text, error, line, column):
        """Reading the text raises an error of just this class at this place."""
        with self.subTest(text=text):
            self.assertEqual(outcome(reader, text), (error.__name__, line, column))

    def assert_accepted(self, reader, text):
        """Reading the text raises no error."""
        with self.subTest(text=text):
            self.assertEqual(outcome(reader, text), ("accepted", 0, 0))


def outcome(reader, text):
    """Return the class and the place of the error that reading the text raises."""
    try:
        reader(text)
    except SourceError as error:
        return type(error).__name__, error.line, error.column
    return "accepted", 0, 0


def expression(text):
    """Return the tree of a text that is one expression."""
    statements = read_tree(text)
    if len(statements) != 1 or statements[0][0] != "expr":
        raise AssertionError("no single expression: " + text)
    return statements[0][2]


def name(word):
    """Return the tree of a name."""
    return ("name", word)


def number(n):
    """Return the tree of a number."""
    return ("number", n)
