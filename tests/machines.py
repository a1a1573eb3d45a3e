"""What the tests of codes and machines use."""

import unittest

from likerun.checker import check_code
from likerun.code import Code, Compiled
from likerun.compiler import compile_program
from likerun.errors import BadCode
from likerun.machine import Machine
from likerun.reading import Reading
from likerun.scopes import read_program

NONE = ("none",)
TRUE = ("truth", True)
FALSE = ("truth", False)
PUSH_NONE = ("push", NONE)
RETURN = ("return",)
LINE = ("line", 0)
POP = ("pop",)


def number(n):
    return ("push", ("number", n))


def text(s):
    return ("push", ("text", s))


def assembled(rows, handlers=()):
    """Return rows and handlers with indexes for labels: a row "a" places a label, which is "@a" in an operand."""
    places = {}
    kept = []
    for row in rows:
        if isinstance(row, str):
            places["@" + row] = len(kept)
        else:
            kept.append(row)

    def told(row):
        return tuple(places.get(part, part) if isinstance(part, str) else part for part in row)
    return tuple(told(row) for row in kept), tuple(told(row) for row in handlers)


def unit(name, *rows, line=1, parameters=(), slots=None, handlers=(), **fields):
    """Return the code of a unit; its slots are its parameters if no others are told."""
    slots = tuple(parameters) if slots is None else tuple(slots)
    rows, handlers = assembled(rows, handlers)
    return Code(name, line, rows, parameters=tuple(parameters), slots=slots, handlers=handlers, **fields)


def main(*rows, handlers=(), **fields):
    """Return the code of a program: the rows between a line and the end."""
    rows, handlers = assembled((LINE,) + rows + (PUSH_NONE, RETURN), handlers)
    return Code("main", 0, rows, handlers=handlers, **fields)


def compiled(*rows, units=(), **fields):
    """Return the codes of a program with these rows and with other units."""
    return Compiled([main(*rows, **fields)] + list(units))


def compiled_text(source):
    """Return the codes of a source text."""
    return compile_program(read_program(source))


def machine(*rows, units=(), options=(), **fields):
    """Return a new run of the codes."""
    return Machine(compiled(*rows, units=units, **fields), **dict(options))


def words_of(run):
    """Return the global names with their words in the picture."""
    rows = run.picture().split("\n")
    stop = [at for at, row in enumerate(rows) if row.startswith("frame ") or row == "objects"][0]
    return dict(row.strip().split(" = ", 1) for row in rows[1:stop])


class MachineCase(unittest.TestCase):

    def same(self, found, wanted):
        self.assertEqual(found, wanted)
        self.assertEqual(repr(found), repr(wanted))

    def refused(self, codes, number=0):
        """The checker refuses the codes for this unit."""
        with self.assertRaises(BadCode) as caught:
            check_code(codes)
        self.same(caught.exception.unit, number)

    def finished(self, *rows, **fields):
        run = machine(*rows, **fields)
        run.finish()
        return run

    def gives(self, rows, wanted, **fields):
        """The run is done, and its global names have these words."""
        run = self.finished(*rows, **fields)
        with self.subTest(rows=rows):
            self.same(run.end, ("done",))
            self.assertEqual(words_of(run), wanted)
        return run

    def leaves(self, rows, name, message="", **fields):
        """The run ends with an error of this class."""
        run = self.finished(*rows, **fields)
        with self.subTest(rows=rows):
            self.same(run.end[0], "error")
            self.same(run.end[1][0][:2], (name, message))
        return run

    def compare(self, one, other):
        """The two runs are the same at each step; return how many steps they take."""
        while True:
            going = one.advance()
            self.assertEqual(other.advance(), going)
            self.assertEqual(one.steps, other.steps)
            self.assertEqual(one.picture(), other.picture())
            self.assertEqual(one.trace, other.trace)
            self.assertEqual(one.room_used(), other.room_used())
            if not going:
                break
            for level in range(len(one.trace)):
                self.assertEqual(one.names(level), other.names(level))
        self.assertEqual(one.report(), other.report())
        self.assertEqual(one.end, other.end)
        return one.steps

    def same_runs(self, source, **options):
        """The plain reading of a text and its machine are the same at each step."""
        program = read_program(source)
        run = Machine(compile_program(program), **options)
        options.pop("schedule", None)
        with self.subTest(text=source, options=options):
            self.compare(Reading(program, **options), run)
        return run
