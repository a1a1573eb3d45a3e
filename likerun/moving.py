"""The instructions of the machine that move entries, go on elsewhere, or use names."""

from likerun.errors import Fault, MachineFault
from likerun.values import UNSET, is_true


def do_line(run, frame, instruction):
    """Take a step."""
    run.take_step(frame if frame.inlined is None else frame.inlined, instruction[1])


def do_push(run, frame, instruction):
    """Put a plain value on the stack."""
    frame.push(instruction[1])


def do_pop(run, frame, instruction):
    """Drop an entry of any kind."""
    frame.take()


def do_copy(run, frame, instruction):
    """Put the value on top a second time."""
    value = frame.take_value()
    frame.stack.extend([value, value])


def do_copy_two(run, frame, instruction):
    """Put the two values on top a second time."""
    values = frame.take_values(2)
    frame.stack.extend(values + values)


def do_swap(run, frame, instruction):
    """Turn the order of the two values on top."""
    u, v = frame.take_values(2)
    frame.stack.extend([v, u])


def do_lift(run, frame, instruction):
    """Put the value on top below the two under it."""
    u, v, w = frame.take_values(3)
    frame.stack.extend([w, u, v])


def do_jump(run, frame, instruction):
    """Go on at the target."""
    frame.at = instruction[1]


def do_jump_true(run, frame, instruction):
    """Go on at the target if the value on top is true."""
    if is_true(run.memory, frame.take_value()):
        frame.at = instruction[1]


def do_jump_false(run, frame, instruction):
    """Go on at the target if the value on top is false."""
    if not is_true(run.memory, frame.take_value()):
        frame.at = instruction[1]


def do_keep_true(run, frame, instruction):
    """Go on at the target and leave the value on top if it is true."""
    keep_or_go_on(run, frame, instruction, True)


def do_keep_false(run, frame, instruction):
    """Go on at the target and leave the value on top if it is false."""
    keep_or_go_on(run, frame, instruction, False)


def keep_or_go_on(run, frame, instruction, wanted):
    """Go on at the target and leave the value on top if it decides so."""
    value = frame.take_value()
    if is_true(run.memory, value) == wanted:
        frame.push(value)
        frame.at = instruction[1]


def name_of_slot(frame, at):
    """Return the name of a slot, which must belong to the inlined function if one is open."""
    unit = frame.unit
    if frame.inlined is not None:
        unit = frame.inlined.unit
        at -= frame.inlined.first
    if at < 0 or at >= len(unit.slots):
        raise MachineFault("a slot that is not there")
    return unit.slots[at]


def load_slot(frame, at):
    """Return the value of a slot."""
    name = name_of_slot(frame, at)
    if frame.slots[at] == UNSET:
        raise Fault("NameError", ("text", name))
    return frame.slots[at]


def do_load(run, frame, instruction):
    """Load a slot."""
    frame.push(load_slot(frame, instruction[1]))


def do_store(run, frame, instruction):
    """Store the value on top in a slot."""
    name_of_slot(frame, instruction[1])
    frame.slots[instruction[1]] = frame.take_value()


def do_delete(run, frame, instruction):
    """Unbind a slot."""
    load_slot(frame, instruction[1])
    frame.slots[instruction[1]] = UNSET


def load_from_cell(run, frame, at):
    """Return the value in a cell."""
    value = run.memory.slot(frame.cell_at(at), 0)
    if value == UNSET:
        names = frame.unit.cells + frame.unit.free
        raise Fault("NameError", ("text", names[at]))
    return value


def do_load_cell(run, frame, instruction):
    """Load the value in a cell."""
    frame.push(load_from_cell(run, frame, instruction[1]))


def do_store_cell(run, frame, instruction):
    """Store the value on top in a cell."""
    run.memory.set_slot(frame.cell_at(instruction[1]), 0, frame.take_value())


def do_delete_cell(run, frame, instruction):
    """Unbind the name of a cell."""
    load_from_cell(run, frame, instruction[1])
    run.memory.set_slot(frame.cell_at(instruction[1]), 0, UNSET)


def do_push_cell(run, frame, instruction):
    """Put a cell itself on the stack."""
    frame.push(("cell", frame.cell_at(instruction[1])[1]))


def do_load_global(run, frame, instruction):
    """Load a global name."""
    frame.push(run.load_global(instruction[1]))


def do_store_global(run, frame, instruction):
    """Store the value on top in a global name."""
    run.bindings[instruction[1]] = frame.take_value()


def do_delete_global(run, frame, instruction):
    """Unbind a global name."""
    run.delete_global(instruction[1])


MOVING = {
    "line": do_line,
    "push": do_push,
    "pop": do_pop,
    "copy": do_copy,
    "copy_two": do_copy_two,
    "swap": do_swap,
    "lift": do_lift,
    "jump": do_jump,
    "jump_true": do_jump_true,
    "jump_false": do_jump_false,
    "keep_true": do_keep_true,
    "keep_false": do_keep_false,
    "load": do_load,
    "store": do_store,
    "delete": do_delete,
    "load_cell": do_load_cell,
    "store_cell": do_store_cell,
    "delete_cell": do_delete_cell,
    "push_cell": do_push_cell,
    "load_global": do_load_global,
    "store_global": do_store_global,
    "delete_global": do_delete_global,
}
