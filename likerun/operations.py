"""The operators, items and slices of values."""

from likerun.errors import Fault
from likerun.fields import container_items
from likerun.sizes import ITEM_LIMIT, KEY_LIMIT, TEXT_LIMIT, check_size, list_value, number_value, text_value
from likerun.values import NONE, equal, is_true, key_of, kind_word, ordered

SEQUENCES = ("text", "list", "tuple")


def unary(memory, op, a):
    """Return the value of an operand with a sign or keyword before it."""
    if op == "not":
        return ("truth", not is_true(memory, a))
    if a[0] != "number":
        raise Fault("KindError", NONE)
    return number_value(-a[1])


def binary(memory, op, a, b):
    """Return the value of two operands."""
    first = kind_word(memory, a)
    second = kind_word(memory, b)
    if first == "number" and second == "number":
        return calculate(op, a[1], b[1])
    if op == "+" and first == second and first in SEQUENCES:
        return join_values(memory, first, a, b)
    if op == "*" and first in SEQUENCES and second == "number":
        return repeat(memory, first, a, b[1])
    if op == "*" and first == "number" and second in SEQUENCES:
        return repeat(memory, second, b, a[1])
    raise Fault("KindError", NONE)


def calculate(op, a, b):
    """Return the number that an operator gives for two integers."""
    if op == "+":
        return number_value(a + b)
    if op == "-":
        return number_value(a - b)
    if op == "*":
        return number_value(a * b)
    if b == 0:
        raise Fault("ZeroError", NONE)
    if op == "//":
        return number_value(a // b)
    return number_value(a % b)


def join_values(memory, kind, a, b):
    """Return two texts, lists or tuples joined."""
    if kind == "text":
        return text_value(a[1] + b[1])
    return list_value(memory, kind, memory.slots_of(a) + memory.slots_of(b))


def repeat(memory, kind, a, times):
    """Return a text, list or tuple, repeated so many times."""
    # The number may be greater, or less, than Python can repeat anything.
    if kind == "text":
        check_size(len(a[1]) * times, TEXT_LIMIT)
        return ("text", a[1] * max(0, times) if a[1] else "")
    items = memory.slots_of(a)
    check_size(len(items) * times, ITEM_LIMIT)
    return memory.make(kind, None, items * max(0, times) if items else [])


def compare(memory, op, a, b):
    """Return the truth of a comparison."""
    if op == "==":
        found = equal(memory, a, b)
    elif op == "!=":
        found = not equal(memory, a, b)
    elif op == "is":
        found = a == b
    elif op == "is not":
        found = a != b
    elif op == "in":
        found = is_in(memory, a, b)
    elif op == "not in":
        found = not is_in(memory, a, b)
    else:
        found = ordered(memory, op, a, b)
    return ("truth", found)


def is_in(memory, a, b):
    """Tell whether a value stands in another one."""
    kind = kind_word(memory, b)
    if kind == "text" and a[0] == "text":
        return a[1] in b[1]
    if kind in ("list", "tuple"):
        return index_of(memory, memory.slots_of(b), a) is not None
    if kind == "dict":
        return key_index(memory, b, a) is not None
    raise Fault("KindError", NONE)


def index_of(memory, items, value):
    """Return the index of the first item that is a value or equal to it; None if there is none."""
    for at, item in enumerate(items):
        if equal(memory, item, value):
            return at
    return None


def key_index(memory, a, key):
    """Return the index of a key's slot in a dict; None if it has no such key."""
    wanted = key_of(memory, key)
    if wanted is None:
        raise Fault("KindError", NONE)
    slots = memory.slots_of(a)
    for at in range(0, len(slots), 2):
        if key_of(memory, slots[at]) == wanted:
            return at
    return None


def found_key_index(memory, a, key):
    """Return the index of a key's slot in a dict, which must have the key."""
    at = key_index(memory, a, key)
    if at is None:
        raise Fault("KeyError", key)
    return at


def item_index(items, index):
    """Return the index from 0 of an item, which must be there; a negative one counts from the end."""
    if index[0] != "number":
        raise Fault("KindError", NONE)
    at = index[1]
    if at < 0:
        at += len(items)
    if at < 0 or at >= len(items):
        raise Fault("RangeError", NONE)
    return at


def load_item(memory, a, index):
    """Return an item."""
    kind = kind_word(memory, a)
    if kind == "dict":
        return memory.slot(a, found_key_index(memory, a, index) + 1)
    if kind not in SEQUENCES:
        raise Fault("KindError", NONE)
    items = container_items(memory, a)
    return items[item_index(items, index)]


def store_item(memory, a, index, value):
    """Replace an item of a list, or set the value of a key of a dict."""
    kind = kind_word(memory, a)
    if kind == "list":
        memory.set_slot(a, item_index(memory.slots_of(a), index), value)
    elif kind == "dict":
        store_key(memory, a, index, value)
    else:
        raise Fault("KindError", NONE)


def store_key(memory, a, key, value):
    """Set the value of a key of a dict; a new key goes to the end."""
    at = key_index(memory, a, key)
    if at is not None:
        memory.set_slot(a, at + 1, value)
        return
    slots = memory.slots_of(a) + [key, value]
    check_size(len(slots), 2 * KEY_LIMIT)
    memory.change(a, None, slots)


def delete_item(memory, a, index):
    """Remove an item of a list, or a key of a dict."""
    kind = kind_word(memory, a)
    if kind == "list":
        take_item(memory, a, index)
    elif kind == "dict":
        take_key(memory, a, found_key_index(memory, a, index))
    else:
        raise Fault("KindError", NONE)


def take_item(memory, a, index):
    """Remove an item of a list and return it."""
    items = memory.slots_of(a)
    item = items.pop(item_index(items, index))
    memory.change(a, None, items)
    return item


def take_key(memory, a, at):
    """Remove the key in this slot of a dict, and return its value."""
    slots = memory.slots_of(a)
    memory.change(a, None, slots[:at] + slots[at + 2:])
    return slots[at + 1]


def load_slice(memory, a, low, high, step):
    """Return a part of a text, list or tuple."""
    kind = kind_word(memory, a)
    if kind not in SEQUENCES or not all([part[0] in ("number", "none") for part in (low, high, step)]):
        raise Fault("KindError", NONE)
    by = 1 if step == NONE else step[1]
    if by == 0:
        raise Fault("ValueError", NONE)
    items = container_items(memory, a)
    many = len(items)
    if by > 0:
        start = bound(low, 0, 0, many, many)
        stop = bound(high, many, 0, many, many)
    else:
        start = bound(low, many - 1, -1, many - 1, many)
        stop = bound(high, -1, -1, many - 1, many)
    found = [items[at] for at in range(start, stop, by)]
    if kind == "text":
        return ("text", "".join([item[1] for item in found]))
    return memory.make(kind, None, found)


def bound(part, missing, least, greatest, many):
    """Return the index for one end of a slice over so many items."""
    if part == NONE:
        return missing
    at = part[1]
    if at < 0:
        at += many
    return max(least, min(at, greatest))
