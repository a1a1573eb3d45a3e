"""The papers that change a few instructions of a code: fold, branch, thread, copies and tidy.

Each function returns the changed code, or None if a condition of its paper fails; whether the checker accepts the
changed code is asked by those that call it.
"""

from likerun.errors import Fault
from likerun.memory import Store
from likerun.operations import binary, compare, unary
from likerun.splicing import all_targets, swapped, with_instructions
from likerun.values import is_true
from likerun.words import AIMING

# What does not stand between the instructions of a paper "copies", besides what has a target.
BARRIERS = {
    "return": True, "yield": True, "raise": True, "again": True, "end_finally": True, "end_with": True,
    "enter_inline": True, "leave_inline": True,
}
DECIDING = {"jump_true": True, "keep_true": True, "jump_false": False, "keep_false": False}
OPPOSITE = {"jump_true": "jump_false", "jump_false": "jump_true"}


def rows_at(code, at, many):
    """Return so many instructions from an index on, with empty rows behind the last one."""
    found = list(code.instructions[at:at + many])
    return found + [("",)] * (many - len(found))


def fold(codes, states, paper):
    """Replace an operation with constant operands by its result."""
    _, number, at = paper
    first, second, third = rows_at(codes[number], at, 3)
    if first[0] != "push":
        return None
    if second[0] == "unary":
        return folded(codes[number], at, second, [first[1]])
    if second[0] == "push" and third[0] in ("binary", "compare"):
        return folded(codes[number], at, third, [first[1], second[1]])
    return None


def folded(code, at, row, operands):
    """Replace an operation, whose row is given, by its result."""
    try:
        value = calculated(row, operands)
    except Fault:
        return None
    return swapped(code, at, len(operands) + 1, [("push", value)])


def calculated(row, operands):
    """Return the result of an operation."""
    word, op = row
    if word == "unary":
        return unary(Store(), op, operands[0])
    if word == "binary":
        return binary(Store(), op, operands[0], operands[1])
    return compare(Store(), op, operands[0], operands[1])


def branch(codes, states, paper):
    """Replace a jump that is decided by a constant."""
    _, number, at = paper
    first, second = rows_at(codes[number], at, 2)
    if first[0] != "push" or second[0] not in DECIDING:
        return None
    rows = []
    if is_true(Store(), first[1]) == DECIDING[second[0]]:
        rows = [("jump", second[1])]
        if second[0] in ("keep_true", "keep_false"):
            rows = [first] + rows
    return swapped(codes[number], at, 2, rows)


def thread(codes, states, paper):
    """Let a jump to a jump go on where that one does."""
    _, number, at = paper
    code = codes[number]
    row = code.instructions[at]
    if row[0] not in AIMING:
        return None
    target = row[-1]
    aim = code.instructions[target]
    if aim[0] != "jump" or aim[1] == target:
        return None
    return with_row(code, at, row[:-1] + (aim[1],))


def with_row(code, at, row):
    """Return a code with another instruction at an index."""
    rows = code.instructions[:at] + (row,) + code.instructions[at + 1:]
    return with_instructions(code, rows, code.handlers, code.extra)


def copies(codes, states, paper):
    """Replace a second load of a value by a copy, or by a load of the slot from which it came."""
    _, number, at, other = paper
    code = codes[number]
    first = code.instructions[at]
    last = code.instructions[other]
    if other == at + 1:
        if first[0] == "store" and last == ("load", first[1]):
            return swapped(code, at, 2, [("copy",), first])
        return None
    if other < at or not is_copied(code, at, other):
        return None
    return with_row(code, other, first)


def is_copied(code, at, other):
    """Tell whether a slot, loaded at one index and stored in a second slot, is the one that is loaded from there."""
    first, second = rows_at(code, at, 2)
    if first[0] != "load" or second[0] != "store" or first[1] == second[1]:
        return False
    if code.instructions[other] != ("load", second[1]):
        return False
    slots = (first[1], second[1])
    for row in code.instructions[at + 2:other]:
        if row[0] in AIMING or row[0] in BARRIERS or row[0] in ("store", "delete") and row[1] in slots:
            return False
    return not any([at < target <= other for target in all_targets(code)])


def tidy(codes, states, paper):
    """Remove instructions without an effect, or turn a test around."""
    _, number, at = paper
    code = codes[number]
    first, second = rows_at(code, at, 2)
    if first == ("jump", at + 1):
        return swapped(code, at, 1, [])
    words = (first[0], second[0])
    if words in (("push", "pop"), ("copy", "pop"), ("swap", "swap")):
        return swapped(code, at, 2, [])
    if first == ("unary", "not") and second[0] in OPPOSITE:
        return swapped(code, at, 2, [(OPPOSITE[second[0]], second[1])])
    return None


FOLDING = {
    "fold": fold,
    "branch": branch,
    "thread": thread,
    "copies": copies,
    "tidy": tidy,
}
