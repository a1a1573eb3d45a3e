"""What the tests of runs use."""

import unittest

from likerun.reading import Reading
from likerun.scopes import read_program


def reading(text, **options):
    """Return a new run of a text; rows in a text may begin with a margin that all of them have."""
    return Reading(read_program(text), **options)


class RunCase(unittest.TestCase):

    def same(self, found, wanted):
        self.assertEqual(found, wanted)
        self.assertEqual(repr(found), repr(wanted))

    def finished(self, text, **options):
        run = reading(text, **options)
        run.finish()
        return run

    def check(self, text, *prints, **options):
        """The run prints these lines and is done."""
        run = self.finished(text, **options)
        with self.subTest(text=text):
            self.same(run.end, ("done",))
            self.same(run.prints, list(prints))
        return run

    def steps(self, text, wanted, **options):
        """The run takes these steps: "main 0, f 1" and so on, or the lines of the program alone."""
        run = self.finished(text, **options)
        found = ", ".join("{} {}".format(*row) for row in run.lines)
        if isinstance(wanted, list):
            found = [line for _, line in run.lines]
        with self.subTest(text=text):
            self.assertEqual(found, wanted)
        return run

    def error(self, text, *chain, prints=None, **options):
        """The run ends with this chain of errors: each is (name, message, trace), or only the first of these."""
        run = self.finished(text, **options)
        with self.subTest(text=text):
            self.assertEqual(run.end and run.end[0], "error")
            found = run.end[1]
            self.same(tuple(row[:len(want)] for row, want in zip(found, chain)), chain)
            self.assertEqual(len(found), len(chain))
            self.same(run.trace, ())
            if prints is not None:
                self.same(run.prints, prints)
        return run

    def fails(self, name, *rows, value=""):
        """Each row, in a program of its own, ends with an error of this class and this message."""
        for row in rows:
            self.error(row, (name, value))

    def values(self, *pairs, before=""):
        """Each expression shows so."""
        for expression, wanted in pairs:
            self.check(before + "\nprint(repr((" + expression + ")))", wanted)
