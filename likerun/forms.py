"""The forms of codes: fields, instructions and operands, each by itself."""

from likerun.letters import is_source
from likerun.options import is_between, is_integer
from likerun.sizes import ITEM_LIMIT, KEY_LIMIT, TEXT_LIMIT, is_small
from likerun.values import NONE, builtin_value

NUMBER_LIMIT = 1000000000
EXTRA_LIMIT = 10000


def is_natural(value):
    """Tell whether a value is an integer from 0 that is not too great."""
    return is_between(value, 0, NUMBER_LIMIT)


def is_string(value):
    """Tell whether a value is a string of allowed characters that is not too long."""
    return isinstance(value, str) and len(value) <= TEXT_LIMIT and is_source(value)


def is_names(value):
    """Tell whether a value is a tuple of different strings."""
    if not isinstance(value, tuple) or not all([is_string(name) for name in value]):
        return False
    return len(set(value)) == len(value)


def is_plain(value):
    """Tell whether a value is a plain value of the language that is not too great."""
    if not isinstance(value, tuple) or len(value) != 2:
        return value == NONE
    kind, inner = value
    if kind == "truth":
        return isinstance(inner, bool)
    if kind == "number":
        return is_integer(inner) and is_small(inner)
    if kind == "text":
        return is_string(inner)
    return kind in ("builtin", "errorclass") and is_string(inner) and builtin_value(inner) == value


def listed(field):
    """Return a field of another unit, which counts as empty if it is no tuple."""
    return field if isinstance(field, tuple) else ()


def defaults_of(code):
    """Return how many defaults another unit has."""
    return code.defaults if is_integer(code.defaults) and code.defaults >= 0 else 0


def is_formed(codes, number):
    """Tell whether the fields of a code and its instructions have their forms."""
    code = codes[number]
    if not has_fields(code) or number == 0 and not is_bare(code):
        return False
    return all([is_instruction(codes, code, instruction) for instruction in code.instructions])


def has_fields(code):
    """Tell whether the fields of a code have their forms; its instructions are not asked for theirs."""
    if not is_string(code.name) or not is_natural(code.line) or not isinstance(code.yields, bool):
        return False
    if not all([is_names(names) for names in (code.parameters, code.slots, code.cells, code.free)]):
        return False
    if code.parameters != code.slots[:len(code.parameters)] or not is_between(code.defaults, 0, len(code.parameters)):
        return False
    if not all([name in code.slots for name in code.cells]) or any([name in code.slots for name in code.free]):
        return False
    if not is_between(code.extra, 0, EXTRA_LIMIT) or not isinstance(code.handlers, tuple):
        return False
    if not all([is_handler(row) for row in code.handlers]):
        return False
    return isinstance(code.instructions, tuple) and len(code.instructions) > 0


def is_handler(row):
    """Tell whether a handler has its form, whatever the signs and the order of its numbers."""
    if not isinstance(row, tuple) or len(row) != 4:
        return False
    return all([is_integer(number) and number <= NUMBER_LIMIT for number in row])


def is_bare(code):
    """Tell whether a code may be that of the whole program."""
    return code.parameters + code.slots + code.cells + code.free == () and not code.yields


def is_instruction(codes, code, instruction):
    """Tell whether an instruction has a word and the operands for it."""
    if not isinstance(instruction, tuple) or len(instruction) == 0 or not isinstance(instruction[0], str):
        return False
    word = instruction[0]
    if word not in OPERANDS or len(OPERANDS[word]) != len(instruction) - 1:
        return False
    for kind, operand in zip(OPERANDS[word], instruction[1:]):
        test = TESTS[kind]
        if not test(codes, code, operand):
            return False
    if word == "guard":
        return instruction[2] == len(listed(codes[instruction[1]].parameters))
    if word in ("enter_inline", "leave_inline"):
        return fits_inline(codes, code, instruction)
    return True


def fits_inline(codes, code, instruction):
    """Tell whether the slots of an inlined function lie behind those of its code."""
    _, number, first = instruction
    many = len(listed(codes[number].slots))
    return len(code.slots) <= first and first + many <= len(code.slots) + code.extra


def asks_natural(codes, code, operand):
    """Tell whether an operand is an integer from 0."""
    return is_natural(operand)


def asks_plain(codes, code, operand):
    """Tell whether an operand is a plain value."""
    return is_plain(operand)


def asks_name(codes, code, operand):
    """Tell whether an operand is a string."""
    return is_string(operand)


def asks_names(codes, code, operand):
    """Tell whether an operand is a tuple of different strings."""
    return is_names(operand)


def asks_slot(codes, code, operand):
    """Tell whether an operand is the index of a slot."""
    return is_between(operand, 0, len(code.slots) + code.extra - 1)


def asks_cell(codes, code, operand):
    """Tell whether an operand is the index of a cell."""
    return is_between(operand, 0, len(code.cells) + len(code.free) - 1)


def asks_many(codes, code, operand):
    """Tell whether an operand is a number of items or arguments."""
    return is_between(operand, 0, ITEM_LIMIT)


def asks_pairs(codes, code, operand):
    """Tell whether an operand is a number of keys."""
    return is_between(operand, 0, KEY_LIMIT)


def asks_unit(codes, code, operand):
    """Tell whether an operand is the number of a unit."""
    return is_between(operand, 0, len(codes) - 1)


def asks_simple(codes, code, operand):
    """Tell whether an operand is the number of a unit that may be inlined."""
    if not asks_unit(codes, code, operand):
        return False
    unit = codes[operand]
    return len(listed(unit.cells)) + len(listed(unit.free)) == 0 and not unit.yields


def asks_target(codes, code, operand):
    """Tell whether an operand is the index of an instruction."""
    return is_between(operand, 0, len(code.instructions) - 1)


def asks_exit(codes, code, operand):
    """Tell whether an operand is the index of an instruction, or -1."""
    return is_between(operand, -1, len(code.instructions) - 1)


def asks_reason(codes, code, operand):
    """Tell whether an operand is a reason to leave a block, but an error."""
    return is_between(operand, 0, 3)


def asks_raised(codes, code, operand):
    """Tell whether an operand is the number of values behind "raise"."""
    return is_between(operand, 0, 2)


def asks_unary(codes, code, operand):
    """Tell whether an operand is the sign of one value."""
    return isinstance(operand, str) and operand in ("-", "not")


def asks_binary(codes, code, operand):
    """Tell whether an operand is the sign of two values."""
    return isinstance(operand, str) and operand in ("+", "-", "*", "//", "mod")


def asks_compare(codes, code, operand):
    """Tell whether an operand is the sign of a comparison."""
    return isinstance(operand, str) and operand in (
        "==", "!=", "<", "<=", ">", ">=", "in", "not in", "is", "is not")


TESTS = {
    "natural": asks_natural,
    "plain": asks_plain,
    "name": asks_name,
    "names": asks_names,
    "slot": asks_slot,
    "cell": asks_cell,
    "many": asks_many,
    "pairs": asks_pairs,
    "unit": asks_unit,
    "simple": asks_simple,
    "target": asks_target,
    "exit": asks_exit,
    "reason": asks_reason,
    "raised": asks_raised,
    "unary": asks_unary,
    "binary": asks_binary,
    "compare": asks_compare,
}
# The kinds of the operands of each instruction.
OPERANDS = {
    "line": ("natural",),
    "push": ("plain",),
    "pop": (),
    "copy": (),
    "copy_two": (),
    "swap": (),
    "lift": (),
    "jump": ("target",),
    "jump_true": ("target",),
    "jump_false": ("target",),
    "keep_true": ("target",),
    "keep_false": ("target",),
    "load": ("slot",),
    "store": ("slot",),
    "delete": ("slot",),
    "load_cell": ("cell",),
    "store_cell": ("cell",),
    "delete_cell": ("cell",),
    "push_cell": ("cell",),
    "load_global": ("name",),
    "store_global": ("name",),
    "delete_global": ("name",),
    "make_tuple": ("many",),
    "make_list": ("many",),
    "make_dict": ("pairs",),
    "make_function": ("unit",),
    "make_class": ("name", "names"),
    "unpack": ("many",),
    "load_field": ("name",),
    "store_field": ("name",),
    "delete_field": ("name",),
    "load_item": (),
    "store_item": (),
    "delete_item": (),
    "load_slice": (),
    "unary": ("unary",),
    "binary": ("binary",),
    "compare": ("compare",),
    "append_item": (),
    "call": ("many", "names"),
    "return": (),
    "yield": (),
    "get_iterator": (),
    "fetch": ("target",),
    "raise": ("raised",),
    "match": (),
    "load_handled": (),
    "drop_handled": (),
    "again": (),
    "leave": ("natural", "reason"),
    "hold": (),
    "end_finally": ("exit", "exit", "exit"),
    "cut": ("natural",),
    "enter_with": (),
    "call_leave": (),
    "end_with": ("exit", "exit", "exit"),
    "guard": ("simple", "natural", "target"),
    "enter_inline": ("simple", "natural"),
    "leave_inline": ("simple", "natural"),
}
