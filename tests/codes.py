"""Codes that the compiler does not write: those of programs, with instructions put in, changed and left out."""

from likerun.checker import check_unit
from likerun.code import Code, Compiled
from likerun.errors import BadCode

PLAIN = (
    ("none",), ("truth", True), ("truth", False), ("number", 0), ("number", 2), ("number", -3), ("text", ""),
    ("text", "ab"), ("builtin", "len"), ("errorclass", "KeyError"))
OPERATORS = (("unary", "-"), ("unary", "not"), ("binary", "+"), ("binary", "*"), ("binary", "//"), ("binary", "mod"),
             ("compare", "=="), ("compare", "<"), ("compare", "in"), ("compare", "is"))


def put_in(compiled, number, at, rows):
    """Return the codes with rows, whose targets are those of the new code, before an instruction of a unit."""
    code = compiled.codes[number]
    table = [place if place <= at else place + len(rows) for place in range(len(code.instructions))]
    # What aims at the instruction now aims at the rows, but a loop goes on with its line.
    if code.instructions[at][0] == "line":
        table[at] += len(rows)
    moved = [aimed(row, table) for row in code.instructions]
    handlers = [(table[start], table[end], table[target], depth) for start, end, target, depth in code.handlers]
    codes = list(compiled.codes)
    codes[number] = with_rows(code, moved[:at] + list(rows) + moved[at:], handlers)
    return Compiled(codes)


def aimed(row, table):
    """Return an instruction with other targets."""
    if row[0] in ("end_finally", "end_with"):
        return row[:1] + tuple(-1 if target < 0 else table[target] for target in row[1:])
    if row[0] in ("jump", "jump_true", "jump_false", "keep_true", "keep_false", "fetch", "guard"):
        return row[:-1] + (table[row[-1]],)
    return row


def with_rows(code, rows, handlers=None, slots=None):
    """Return a code with other instructions."""
    return Code(
        code.name, code.line, tuple(rows), parameters=code.parameters, defaults=code.defaults,
        slots=code.slots if slots is None else slots, cells=code.cells, free=code.free, yields=code.yields,
        extra=code.extra, handlers=code.handlers if handlers is None else tuple(handlers))


def is_accepted(compiled, before):
    """Tell whether the checker accepts codes that have come of accepted ones by changes within units."""
    try:
        for number, code in enumerate(compiled.codes):
            if code is not before.codes[number]:
                check_unit(compiled.codes, number)
    except BadCode:
        return False
    return True


def snippet(rng, code, at):
    """Return rows that may be put in before an instruction: most of them leave the stack as it is."""
    x, y = rng.choice(PLAIN), rng.choice(PLAIN)
    many = len(code.slots)
    s, z = (rng.randrange(many), rng.randrange(many)) if many else (0, 0)
    pick = rng.randrange(18)
    if pick == 0:
        return [("push", x), ("pop",)]
    if pick == 1:
        return [("copy",), ("pop",)]
    if pick == 2:
        return [("swap",), ("swap",)]
    if pick == 3:
        return [("jump", at + 1)]
    if pick == 4:
        return [("push", x), (rng.choice(["jump_true", "jump_false"]), at + rng.choice([2, 3])), ("jump", at + 3)]
    if pick == 5:
        return [("push", x), ("unary", "not"), (rng.choice(["jump_true", "jump_false"]), at + 3)]
    if pick == 6:
        return [("push", x), ("push", y), rng.choice(OPERATORS[2:]), ("pop",)]
    if pick == 7:
        return [("push", x), rng.choice(OPERATORS[:2]), ("pop",)]
    if pick == 8:
        return [("push", x), (rng.choice(["keep_true", "keep_false"]), at + 3), ("push", y), ("pop",)]
    if pick == 9:
        return [("jump", at + 3), rng.choice([("pop",), ("again",), ("yield",), ("cut", 7)]), ("jump", at + 1 + 1)]
    if pick == 10 and many:
        return [("push", x), ("store", s), ("load", s), ("pop",)]
    if pick == 11 and many:
        return [("load", s), ("store", z), ("load", z), ("pop",)]
    if pick == 12 and many:
        return [("push", x), ("store", s), ("load", s), ("store", z), rng.choice([("line", 3), ("load", s)])] + (
            [("load", z), ("pop",)])
    if pick == 13:
        return [("push", x), ("push", y), ("push", x), ("lift",), ("pop",), ("copy_two",), ("cut", 0)]
    if pick == 14:
        return [("line", rng.randrange(20))]
    if pick == 15:
        return [("jump", at + 2), ("jump", at + 3), ("jump", at + 1)]
    if pick == 16:
        return [("leave", rng.randrange(3), 0), ("end_finally", -1, -1, -1)]
    return [rng.choice([("copy",), ("pop",), ("swap",), ("push", x), ("load_global", "a"), ("delete_global", "a")])]


def mutated(rng, compiled):
    """Return codes with one change, which may break a rule."""
    number = rng.randrange(len(compiled.codes))
    code = compiled.codes[number]
    at = rng.randrange(len(code.instructions))
    rows = list(code.instructions)
    pick = rng.randrange(10)
    codes = list(compiled.codes)
    if pick < 6:
        return put_in(compiled, number, at, snippet(rng, code, at))
    if pick == 6:
        other = rng.randrange(len(rows))
        rows[at], rows[other] = rows[other], rows[at]
    elif pick == 7:
        rows[at] = tuple(part if isinstance(part, (str, tuple, bool)) else max(0, part + rng.choice([-1, 1, 2, -5, 9]))
                         for part in rows[at])
    elif pick == 8 and code.handlers:
        handlers = list(code.handlers)
        which = rng.randrange(len(handlers))
        row = list(handlers[which])
        row[rng.randrange(4)] += rng.choice([-1, 1])
        handlers[which] = tuple(row)
        if rng.random() < 0.3:
            rng.shuffle(handlers)
        codes[number] = with_rows(code, rows, handlers)
        return Compiled(codes)
    else:
        start = rng.randrange(len(rows) - 1)
        end = rng.randrange(start + 1, len(rows))
        row = (start, end, rng.randrange(end, len(rows)), rng.randrange(3))
        handlers = code.handlers + (row,) if rng.random() < 0.5 else (row,) + code.handlers
        codes[number] = with_rows(code, rows, handlers)
        return Compiled(codes)
    codes[number] = with_rows(code, rows)
    return Compiled(codes)


def random_codes(rng, compiled, many):
    """Return accepted codes after so many changes."""
    changes = 0
    for _ in range(20 * many):
        after = mutated(rng, compiled)
        if is_accepted(after, compiled):
            compiled = after
            changes += 1
            if changes == many:
                break
    return compiled
