"""The words of the instructions: where they go on, and which of them cannot raise an error."""

# The words whose last operand is a target.
AIMING = {
    "jump": True, "jump_true": True, "jump_false": True, "keep_true": True, "keep_false": True, "fetch": True,
    "guard": True,
}
# The words all operands of which are targets, or -1.
PARTING = {"end_finally": True, "end_with": True}
# The words behind which the next instruction never comes next by itself.
ENDING = {"jump": True, "return": True, "raise": True, "again": True}
QUIET = {
    "line": True, "push": True, "pop": True, "copy": True, "copy_two": True, "swap": True, "lift": True, "jump": True,
    "jump_true": True, "jump_false": True, "keep_true": True, "keep_false": True, "store": True, "store_cell": True,
    "store_global": True, "push_cell": True, "make_tuple": True, "make_list": True, "make_function": True,
    "return": True, "load_handled": True, "drop_handled": True, "leave": True, "hold": True, "cut": True,
    "guard": True, "leave_inline": True,
}


def targets_of(instruction):
    """Return the targets of an instruction."""
    word = instruction[0]
    if word in AIMING:
        return [instruction[-1]]
    if word in PARTING:
        return [target for target in instruction[1:] if target >= 0]
    return []


def retargeted(instruction, table):
    """Return an instruction with the targets that a table gives for its own."""
    word = instruction[0]
    if word in AIMING:
        return instruction[:-1] + (table[instruction[-1]],)
    if word in PARTING:
        return (word,) + tuple([table[target] if target >= 0 else target for target in instruction[1:]])
    return instruction


def handler_rows(code):
    """Return for each instruction of a code the handler that takes its errors; None if there is none."""
    many = len(code.instructions)
    found = [None] * many
    # The first handler of an instruction counts, so it is the last one to be put there.
    for row in code.handlers[::-1]:
        for at in range(max(0, row[0]), min(row[1], many)):
            found[at] = row
    return found
