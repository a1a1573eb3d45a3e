"""Codes with some of their instructions replaced: what moves with them, and what is left out."""

from likerun.code import Code
from likerun.words import retargeted, targets_of


def all_targets(code):
    """Return the targets of all instructions and handlers of a code."""
    found = [target for row in code.instructions for target in targets_of(row)]
    return found + [row[2] for row in code.handlers]


def moving_table(code, at, many, size):
    """Return where each index moves if so many instructions become another number; None if one is lost among them."""
    bounds = [bound for row in code.handlers for bound in row[:2]]
    if any([at < place < at + many for place in all_targets(code) + bounds]):
        return None
    return [place if place <= at else place + size - many for place in range(len(code.instructions))]


def spliced(code, at, many, rows, table, extra):
    """Return a code with rows in the place of so many instructions; the others move as a table tells."""
    before = [retargeted(row, table) for row in code.instructions[:at]]
    behind = [retargeted(row, table) for row in code.instructions[at + many:]]
    handlers = [(table[start], table[end], table[target], depth) for start, end, target, depth in code.handlers]
    return with_instructions(code, tuple(before + list(rows) + behind), handlers, extra)


def with_instructions(code, instructions, handlers, extra):
    """Return a code with other instructions, and with those of the handlers whose range is not empty."""
    return Code(
        code.name, code.line, instructions, parameters=code.parameters, defaults=code.defaults, slots=code.slots,
        cells=code.cells, free=code.free, yields=code.yields, extra=extra,
        handlers=tuple([row for row in handlers if row[0] < row[1]]))


def swapped(code, at, many, rows):
    """Return a code with rows, whose targets are its own, in the place of so many instructions; None if refused."""
    table = moving_table(code, at, many, len(rows))
    if table is None:
        return None
    return spliced(code, at, many, [retargeted(row, table) for row in rows], table, code.extra)
