"""A second checker, which follows the last instruction whose state has changed until none has."""

from likerun.errors import BadCode

QUIET = (
    "line push pop copy copy_two swap lift jump jump_true jump_false keep_true keep_false store store_cell store_global"
    " push_cell make_tuple make_list make_function return load_handled drop_handled leave hold cut guard leave_inline"
).split()
BARRED = (
    "call return yield fetch get_iterator enter_with call_leave guard enter_inline make_function make_class raise again"
    " load_cell store_cell delete_cell push_cell").split()
SIMPLE = {
    "line": "", "push": "", "pop": "?", "copy": "v", "copy_two": "vv", "swap": "vv", "lift": "vvv", "jump": "",
    "jump_true": "v", "jump_false": "v", "load": "", "store": "v", "delete": "", "load_cell": "", "store_cell": "v",
    "delete_cell": "", "push_cell": "", "load_global": "", "store_global": "v", "delete_global": "", "load_field": "v",
    "store_field": "vv", "delete_field": "v", "load_item": "vv", "store_item": "vvv", "delete_item": "vv",
    "load_slice": "vvvv", "unary": "v", "binary": "vv", "compare": "vv", "append_item": "vv", "get_iterator": "v",
    "unpack": "v", "yield": "v", "drop_handled": "h", "leave_inline": "v", "hold": "h", "match": "v"}
PUTS = {
    "push": "v", "copy": "vv", "copy_two": "vvvv", "swap": "vv", "lift": "vvv", "load": "v", "load_cell": "v",
    "push_cell": "c", "load_global": "v", "load_field": "v", "load_item": "v", "load_slice": "v", "unary": "v",
    "binary": "v", "compare": "v", "get_iterator": "i", "yield": "v", "leave_inline": "v", "match": "v"}
KINDS = {"v": "value", "i": "iterator", "h": "handled", "c": "cell"}


class Refused(Exception):
    pass


def second_check(compiled):
    """Return the states of codes whose forms are right."""
    found = []
    for number, code in enumerate(compiled.codes):
        try:
            found.append(check_one(compiled.codes, code))
        except Refused:
            raise BadCode(number) from None
    return tuple(found)


def need(condition):
    if not condition:
        raise Refused


def targets(row):
    if row[0] in ("end_finally", "end_with"):
        return [part for part in row[1:] if part != -1]
    if row[0].startswith(("jump", "keep")) or row[0] in ("fetch", "guard"):
        return [row[-1]]
    return []


def formed(codes, code):
    many = len(code.instructions)
    for row in code.instructions:
        for target in targets(row):
            need(0 <= target < many)
        if row[0] in ("load", "store", "delete"):
            need(0 <= row[1] < len(code.slots) + code.extra)
        if row[0].endswith("_cell"):
            need(0 <= row[1] < len(code.cells) + len(code.free))
        if row[0] in ("make_tuple", "make_list", "unpack", "call"):
            need(0 <= row[1] <= 200)
        if row[0] == "make_dict":
            need(0 <= row[1] <= 100)
        if row[0] == "raise":
            need(row[1] in (0, 1, 2))
        if row[0] == "leave":
            need(row[1] >= 0 and row[2] in (0, 1, 2, 3))
        if row[0] == "make_function":
            need(0 <= row[1] < len(codes))


def check_one(codes, code):
    rows = code.instructions
    formed(codes, code)
    need(rows[0][0] == "line")
    for at, row in enumerate(rows):
        need(all(target > at or rows[target][0] == "line" for target in targets(row)))
    for start, end, target, depth in code.handlers:
        need(0 <= start < end <= target < len(rows) and depth >= 0)
    states = {0: ((), None)}
    changed = {0}
    while changed:
        at = max(changed)
        changed.discard(at)
        for place, state in ways(codes, code, at, *states[at]):
            need(place < len(rows))
            known = states.get(place)
            if known is not None:
                state = join(known, state)
            if state != known:
                states[place] = state
                changed.add(place)
    return tuple(told(states.get(at)) for at in range(len(rows)))


def join(known, state):
    need(known[1] == state[1] and len(known[0]) == len(state[0]))
    kinds = []
    for one, other in zip(known[0], state[0]):
        if isinstance(one, frozenset) and isinstance(other, frozenset):
            kinds.append(one | other)
        else:
            need(one == other)
            kinds.append(one)
    return tuple(kinds), known[1]


def told(state):
    if state is None:
        return None
    kinds = [("pending", tuple(sorted(kind))) if isinstance(kind, frozenset) else KINDS[kind] for kind in state[0]]
    return tuple(kinds), state[1]


def wants(codes, row):
    """Return the kinds that an instruction takes for good or not, and how many of them it really takes."""
    word = row[0]
    if word in SIMPLE:
        return SIMPLE[word], len(SIMPLE[word])
    if word in ("make_tuple", "make_list", "raise"):
        return "v" * row[1], row[1]
    if word == "make_dict":
        return "vv" * row[1], 2 * row[1]
    if word == "make_function":
        kinds = "v" * codes[row[1]].defaults + "c" * len(codes[row[1]].free)
        return kinds, len(kinds)
    if word == "make_class":
        return "v" * (1 + len(row[2])), 1 + len(row[2])
    if word == "call":
        return "v" * (1 + row[1] + len(row[2])), 1 + row[1] + len(row[2])
    if word == "enter_inline":
        return "v" * (1 + len(codes[row[1]].parameters)), 1 + len(codes[row[1]].parameters)
    return {"keep_true": ("v", 0), "keep_false": ("v", 0), "fetch": ("i", 1), "load_handled": ("h", 0), "again": ("h", 1),
            "enter_with": ("v", 0), "call_leave": ("vp", 0), "end_finally": ("p", 1), "end_with": ("vpv", 3),
            "return": ("v", 1), "cut": ("", 0), "leave": ("v" if word == "leave" and row[2] == 1 else "", 0),
            "guard": ("v" * (1 + (row[2] if word == "guard" else 0)), 0)}[word]


def fits(kind, letter):
    return isinstance(kind, frozenset) if letter == "p" else letter == "?" or kind == letter


def ways(codes, code, at, kinds, inlined):
    row = code.instructions[at]
    word = row[0]
    need(word != "yield" or code.yields)
    if inlined is None:
        need(word != "leave_inline")
        need(word not in ("load", "store", "delete") or row[1] < len(code.slots))
    else:
        need(word not in BARRED and (word != "leave_inline" or row[1:] == inlined))
        inner = range(inlined[1], inlined[1] + len(codes[inlined[0]].slots))
        need(word not in ("load", "store", "delete") or row[1] in inner)
    letters, taken = wants(codes, row)
    need(len(kinds) >= len(letters))
    top = kinds[len(kinds) - len(letters):]
    need(all(fits(kind, letter) for kind, letter in zip(top, letters)))
    if word == "match":
        need(len(kinds) > 1 and kinds[-2] == "h")
    found = []
    handler = next((row for row in code.handlers if row[0] <= at < row[1]), None)
    if word not in QUIET and handler is not None:
        need(len(kinds) - taken >= handler[3])
        found.append((handler[2], (kinds[:handler[3]] + ("h",), None)))
    for place, after, inner in steps(codes, row, at, kinds, kinds[:len(kinds) - taken], inlined):
        found.append((place, (after, inner)))
    return found


def steps(codes, row, at, kinds, left, inlined):
    word = row[0]
    if word in ("return", "raise", "again"):
        return []
    if word == "jump":
        return [(row[1], kinds, inlined)]
    if word in ("jump_true", "jump_false"):
        return [(row[1], left, inlined), (at + 1, left, inlined)]
    if word in ("keep_true", "keep_false"):
        return [(row[1], kinds, inlined), (at + 1, kinds[:-1], inlined)]
    if word == "fetch":
        return [(row[1], left, inlined), (at + 1, kinds + ("v",), inlined)]
    if word == "guard":
        return [(row[3], kinds, inlined), (at + 1, kinds, inlined)]
    if word == "enter_inline":
        return [(at + 1, left, row[1:])]
    if word == "leave_inline":
        return [(at + 1, kinds, None)]
    if word == "cut":
        need(len(kinds) >= row[1])
        return [(at + 1, kinds[:row[1]], inlined)]
    if word == "leave":
        need(len(kinds) - (row[2] == 1) >= row[1])
        return [(at + 1, kinds[:row[1]] + (frozenset([row[2]]),), inlined)]
    if word == "hold":
        return [(at + 1, left + (frozenset([4]),), inlined)]
    if word in ("end_finally", "end_with"):
        return parting(row, at, kinds[-1] if word == "end_finally" else kinds[-2], left, inlined)
    if word in ("load_handled", "enter_with", "call_leave"):
        return [(at + 1, kinds + ("v",), inlined)]
    if word == "unpack":
        return [(at + 1, left + ("v",) * row[1], inlined)]
    if word in SIMPLE:
        return [(at + 1, left + tuple(PUTS.get(word, "")), inlined)]
    return [(at + 1, left + ("v",), inlined)]


def parting(row, at, reasons, left, inlined):
    found = []
    for reason in reasons:
        if reason == 0 or reason == 4 and row[0] == "end_with":
            found.append((at + 1, left, inlined))
        elif reason != 4:
            need(row[reason] != -1)
            found.append((row[reason], left + (("v",) if reason == 1 else ()), inlined))
    return found
