"""Papers: small changes of codes that change no run."""

from likerun.checker import check_code, check_unit
from likerun.code import Compiled
from likerun.errors import BadCode, BadPaper
from likerun.folding import FOLDING
from likerun.options import is_between
from likerun.splicing import moving_table, spliced, with_instructions
from likerun.words import ENDING, QUIET, handler_rows, retargeted, targets_of

INLINE_LIMIT = 24
# What may stand in a function that is inlined.
INLINED = {
    "line": True, "push": True, "pop": True, "copy": True, "copy_two": True, "swap": True, "lift": True, "jump": True,
    "jump_true": True, "jump_false": True, "keep_true": True, "keep_false": True, "load": True, "store": True,
    "delete": True, "load_global": True, "make_tuple": True, "make_list": True, "make_dict": True, "load_field": True,
    "load_item": True, "load_slice": True, "unary": True, "binary": True, "compare": True, "return": True,
}
# How many parts the papers of each word have.
PARTS = {"fold": 3, "branch": 3, "thread": 3, "dead": 3, "copies": 4, "tidy": 3, "inline": 4}


def apply_paper(compiled, paper):
    """Return the codes that a paper makes of codes; a paper that is refused raises BadPaper."""
    shapes = check_code(compiled)
    codes, _ = apply_checked(compiled.codes, shapes, paper)
    return Compiled(codes)


def replay(compiled, papers):
    """Return the codes that papers, one after the other, make of codes."""
    if len(papers) == 0:
        return compiled
    shapes = check_code(compiled)
    codes = compiled.codes
    for paper in papers:
        codes, shapes = apply_checked(codes, shapes, paper)
    return Compiled(codes)


def apply_checked(codes, shapes, paper):
    """Return the codes that a paper makes of accepted codes, and their states."""
    if not is_paper(codes, paper):
        raise BadPaper(paper)
    number = paper[1]
    code = changed_code(codes, shapes[number], paper)
    if code is None:
        raise BadPaper(paper)
    after = with_code(codes, number, code)
    try:
        # What a paper changes of a code is nothing that the rules ask of it for another one.
        states = check_unit(after, number)
    except BadCode:
        raise BadPaper(paper) from None
    return after, shapes[:number] + (states,) + shapes[number + 1:]


def with_code(codes, number, code):
    """Return codes with another one for a unit."""
    return codes[:number] + (code,) + codes[number + 1:]


def changed_code(codes, states, paper):
    """Return the changed code for a paper of a right form, before the checker is asked; None if it is refused."""
    if paper[0] == "dead":
        return bury(codes, states, paper)
    if paper[0] == "inline":
        return inline(codes, states, paper)
    action = FOLDING[paper[0]]
    return action(codes, states, paper)


def is_paper(codes, paper):
    """Tell whether a paper has one of the forms, and names what is there."""
    if not isinstance(paper, tuple) or len(paper) == 0 or not isinstance(paper[0], str):
        return False
    if PARTS.get(paper[0]) != len(paper) or not is_between(paper[1], 0, len(codes) - 1):
        return False
    many = len(codes[paper[1]].instructions)
    if paper[0] == "dead":
        return is_live(paper[2], many)
    if not is_between(paper[2], 0, many - 1):
        return False
    if paper[0] == "copies":
        return is_between(paper[3], 0, many - 1)
    return paper[0] != "inline" or is_between(paper[3], 0, len(codes) - 1)


def is_live(live, many):
    """Tell whether a value is an ascending tuple of some, but not all, of so many indexes, with the first one."""
    if not isinstance(live, tuple) or not all([is_between(at, 0, many - 1) for at in live]):
        return False
    ascending = all([low < high for low, high in zip(live, live[1:])])
    return ascending and live[:1] == (0,) and len(live) < many


def next_rows(code):
    """Return for each instruction of a code the indexes that may come next."""
    handlers = handler_rows(code)
    found = []
    for at, row in enumerate(code.instructions):
        places = targets_of(row)
        if row[0] not in ENDING:
            places.append(at + 1)
        if row[0] not in QUIET and handlers[at] is not None:
            places.append(handlers[at][2])
        found.append(places)
    return found


def bury(codes, states, paper):
    """Remove the instructions to which none of the others leads."""
    _, number, live = paper
    code = codes[number]
    rows = next_rows(code)
    kept = {at: True for at in live}
    if not all([place in kept for at in live for place in rows[at]]):
        return None
    table = []
    below = 0
    for at in range(len(rows)):
        table.append(below)
        if at in kept:
            below += 1
    instructions = tuple([retargeted(code.instructions[at], table) for at in live])
    handlers = [
        (table[start], table[end], table[target], depth)
        for start, end, target, depth in code.handlers if target in kept]
    return with_instructions(code, instructions, handlers, code.extra)


def inline(codes, states, paper):
    """Replace a call by the instructions of the function that it calls, behind a guard."""
    _, number, at, callee = paper
    code = codes[number]
    row = code.instructions[at]
    if row[0] != "call" or row[2] != () or states[at] is None or states[at][1] is not None:
        return None
    if any([other[0] == "guard" and other[3] == at for other in code.instructions]):
        return None
    if not is_simple(codes[callee], row[1]):
        return None
    first = len(code.slots) + code.extra
    body, slow = inlined_rows(codes[callee], callee, at + 2, first)
    rows = [("guard", callee, row[1], slow), ("enter_inline", callee, first)] + body + [row]
    table = moving_table(code, at, 1, len(rows))
    return spliced(code, at, 1, rows, table, code.extra + len(codes[callee].slots))


def is_simple(code, many):
    """Tell whether a code with so many parameters may be inlined."""
    if len(code.parameters) != many or code.cells or code.free or code.yields or code.handlers or code.extra > 0:
        return False
    return len(code.instructions) <= INLINE_LIMIT and all([row[0] in INLINED for row in code.instructions])


def inlined_rows(code, number, start, first):
    """Return the instructions of an inlined function that begin at an index, and the index behind them."""
    places = []
    behind = start
    for row in code.instructions:
        places.append(behind)
        behind += 2 if row[0] == "return" else 1
    rows = []
    for row in code.instructions:
        if row[0] == "return":
            rows.extend([("leave_inline", number, first), ("jump", behind + 1)])
        elif row[0] in ("load", "store", "delete"):
            rows.append((row[0], row[1] + first))
        else:
            rows.append(retargeted(row, places))
    return rows, behind
