"""A second reading of the conditions of papers, which tells all papers of some codes that the checker may accept."""

from likerun.checker import check_code
from likerun.errors import Fault
from likerun.memory import Store
from likerun.operations import binary, compare, unary
from likerun.values import is_true
from tests.second_checker import QUIET, targets

SIMPLE = (
    "line push pop copy copy_two swap lift jump jump_true jump_false keep_true keep_false load store delete load_global"
    " make_tuple make_list make_dict load_field load_item load_slice unary binary compare return").split()
BETWEEN = "return yield raise again end_finally end_with enter_inline leave_inline".split()


def all_papers(rng, compiled):
    """Return all papers but "dead", of which one for each unit is drawn."""
    shapes = check_code(compiled)
    found = []
    for number, code in enumerate(compiled.codes):
        places = {target for row in code.instructions for target in targets(row)}
        places |= {part for row in code.handlers for part in row[:3]}
        for at in range(len(code.instructions)):
            for word in ("fold", "branch", "thread", "tidy"):
                if small(word, code, at, places):
                    found.append((word, number, at))
            found += [("copies", number, at, other) for other in copied(code, at, places)]
            found += [("inline", number, at, callee) for callee, other in enumerate(compiled.codes)
                      if inlined(code, shapes[number][at], at, other)]
        live = drawn_live(rng, code)
        if live is not None:
            found.append(("dead", number, live))
    return found


def free_between(places, at, many):
    return not any(place in places for place in range(at + 1, at + many))


def small(word, code, at, places):
    rows = code.instructions[at:at + 3]
    words = [row[0] for row in rows] + ["", "", ""]
    if word == "thread":
        aim = targets(rows[0])
        if words[0] in ("end_finally", "end_with") or not aim:
            return False
        there = code.instructions[aim[0]]
        return there[0] == "jump" and there[1] != aim[0]
    if word == "fold":
        if words[:2] == ["push", "unary"]:
            return calculates(rows[1], rows[0][1]) and free_between(places, at, 2)
        return (words[:2] == ["push", "push"] and words[2] in ("binary", "compare")
                and calculates(rows[2], rows[0][1], rows[1][1]) and free_between(places, at, 3))
    if word == "branch":
        return words[0] == "push" and words[1].startswith(("jump_", "keep_")) and free_between(places, at, 2)
    if words[0] == "jump":
        return rows[0][1] == at + 1
    pair = (words[0], words[1])
    good = pair in (("push", "pop"), ("copy", "pop"), ("swap", "swap"))
    good = good or rows[0] == ("unary", "not") and words[1] in ("jump_true", "jump_false")
    return good and free_between(places, at, 2)


def calculates(row, *operands):
    action = {"unary": unary, "binary": binary, "compare": compare}[row[0]]
    try:
        is_true(Store(), action(Store(), row[1], *operands))
    except Fault:
        return False
    return True


def copied(code, at, places):
    rows = code.instructions
    if at + 1 == len(rows):
        return []
    first, second = rows[at], rows[at + 1]
    if first[0] == "store":
        return [at + 1] if second == ("load", first[1]) and free_between(places, at, 2) else []
    if first[0] != "load" or second[0] != "store" or first[1] == second[1]:
        return []
    aims = {target for row in rows for target in targets(row)} | {row[2] for row in code.handlers}
    found = []
    for other in range(at + 2, len(rows)):
        if at + 1 in aims or other in aims:
            break
        if rows[other] == ("load", second[1]):
            found.append(other)
        row = rows[other]
        if row[0] in BETWEEN or targets(row) or row[0] in ("store", "delete") and row[1] in (first[1], second[1]):
            break
    return found


def inlined(code, state, at, callee):
    row = code.instructions[at]
    return (
        row[0] == "call" and row[2] == () and state is not None and state[1] is None
        and not [other for other in code.instructions if other[0] == "guard" and other[3] == at]
        and len(callee.parameters) == row[1] and not callee.cells + callee.free + callee.handlers and not callee.yields
        and callee.extra == 0 and len(callee.instructions) <= 24
        and all(other[0] in SIMPLE for other in callee.instructions))


def drawn_live(rng, code):
    """Return live indexes with some that are not needed; None if all are live or one leads behind the end."""
    many = len(code.instructions)
    live = {0} | {rng.randrange(many) for _ in range(rng.randrange(3))}
    rest = list(live)
    while rest:
        at = rest.pop()
        row = code.instructions[at]
        places = list(targets(row))
        if row[0] not in ("jump", "return", "raise", "again"):
            places.append(at + 1)
        handler = next((row for row in code.handlers if row[0] <= at < row[1]), None)
        if row[0] not in QUIET and handler is not None:
            places.append(handler[2])
        for place in places:
            if place == many:
                return None
            if place not in live:
                live.add(place)
                rest.append(place)
    return tuple(sorted(live)) if len(live) < many else None
