"""The instructions of the machine that make values and use what values hold."""

from likerun.errors import Fault
from likerun.fields import delete_field, is_class, load_field, store_field
from likerun.forms import defaults_of, listed
from likerun.methods import need_items
from likerun.natives import call_native
from likerun.operations import binary, compare, delete_item, load_item, load_slice, store_item, unary
from likerun.values import NONE, is_kind


def do_make_tuple(run, frame, instruction):
    """Make a tuple."""
    frame.push(run.memory.make("tuple", None, frame.take_values(instruction[1])))


def do_make_list(run, frame, instruction):
    """Make a list."""
    frame.push(run.memory.make("list", None, frame.take_values(instruction[1])))


def do_make_dict(run, frame, instruction):
    """Make a dict."""
    parts = frame.take_values(2 * instruction[1])
    value = run.memory.make("dict", None, [])
    for at in range(0, len(parts), 2):
        store_item(run.memory, value, parts[at], parts[at + 1])
    frame.push(value)


def do_make_function(run, frame, instruction):
    """Make a function, whose cells stand above its defaults."""
    number = instruction[1]
    unit = run.units[number]
    cells = [("ref", frame.take_mark("cell")[1]) for _ in listed(unit.free)]
    slots = frame.take_values(defaults_of(unit)) + cells[::-1]
    frame.push(run.memory.make("function", (number, unit.name), slots))


def do_make_class(run, frame, instruction):
    """Make a class, whose base stands below its attributes."""
    _, name, names = instruction
    slots = frame.take_values(1 + len(names))
    if slots[0] != NONE and not is_class(run.memory, slots[0]):
        raise Fault("KindError", NONE)
    frame.push(run.memory.make("class", (name, names), slots))


def do_unpack(run, frame, instruction):
    """Put the items of the value on top on the stack, the first one on top."""
    items = need_items(run.memory, frame.take_value())
    if len(items) != instruction[1]:
        raise Fault("ValueError", NONE)
    frame.stack.extend(items[::-1])


def do_load_field(run, frame, instruction):
    """Load an attribute."""
    frame.push(load_field(run.memory, frame.take_value(), instruction[1]))


def do_store_field(run, frame, instruction):
    """Store a value in an attribute of the object on top."""
    value, a = frame.take_values(2)
    store_field(run.memory, a, instruction[1], value)


def do_delete_field(run, frame, instruction):
    """Remove an attribute."""
    delete_field(run.memory, frame.take_value(), instruction[1])


def do_load_item(run, frame, instruction):
    """Load an item."""
    a, index = frame.take_values(2)
    frame.push(load_item(run.memory, a, index))


def do_store_item(run, frame, instruction):
    """Store a value in an item; its object and index stand above it."""
    value, a, index = frame.take_values(3)
    store_item(run.memory, a, index, value)


def do_delete_item(run, frame, instruction):
    """Remove an item."""
    a, index = frame.take_values(2)
    delete_item(run.memory, a, index)


def do_load_slice(run, frame, instruction):
    """Load a slice."""
    a, low, high, step = frame.take_values(4)
    frame.push(load_slice(run.memory, a, low, high, step))


def do_unary(run, frame, instruction):
    """Apply a sign to a value."""
    frame.push(unary(run.memory, instruction[1], frame.take_value()))


def do_binary(run, frame, instruction):
    """Apply a sign to two values."""
    a, b = frame.take_values(2)
    frame.push(binary(run.memory, instruction[1], a, b))


def do_compare(run, frame, instruction):
    """Compare two values."""
    a, b = frame.take_values(2)
    frame.push(compare(run.memory, instruction[1], a, b))


def do_append_item(run, frame, instruction):
    """Append the value on top to the list below."""
    a, value = frame.take_values(2)
    if not is_kind(run.memory, a, "list"):
        raise Fault("KindError", NONE)
    call_native(run.memory, "append", a, [value])


MAKING = {
    "make_tuple": do_make_tuple,
    "make_list": do_make_list,
    "make_dict": do_make_dict,
    "make_function": do_make_function,
    "make_class": do_make_class,
    "unpack": do_unpack,
    "load_field": do_load_field,
    "store_field": do_store_field,
    "delete_field": do_delete_field,
    "load_item": do_load_item,
    "store_item": do_store_item,
    "delete_item": do_delete_item,
    "load_slice": do_load_slice,
    "unary": do_unary,
    "binary": do_binary,
    "compare": do_compare,
    "append_item": do_append_item,
}
