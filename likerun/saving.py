"""Runs of the machine as texts, and machines that go on with them."""

from likerun.activation import told_entry
from likerun.code import Compiled, code_of, fields_of, has_code_form
from likerun.datum import read_datum, write_datum
from likerun.errors import BadCode, BadDatum, BadOption, BadSave
from likerun.forms import is_string
from likerun.machine import Machine
from likerun.memory import moved
from likerun.options import check_schedule, is_between
from likerun.saved_frames import restored_frames
from likerun.saved_objects import Vetting, is_places, is_saved_value, is_tuple, need


def save(machine):
    """Return a text with all that a run of the machine needs to go on."""
    heap = machine.heap
    order = heap.reach(machine.held())
    table = {address: number for number, address in enumerate(order)}
    names = sorted(list(machine.bindings))
    return write_datum((
        tuple([fields_of(code) for code in machine.compiled.codes]),
        (tuple(machine.inputs), machine.room, machine.fuel, machine.depth),
        machine.taken,
        tuple(machine.printed),
        tuple(machine.stepped),
        machine.ending,
        tuple([(name, moved(machine.bindings[name], table)) for name in names]),
        tuple([saved_frame(frame, table) for frame in machine.frames]),
        tuple([saved_object(heap, ("ref", address), table) for address in order]),
    ))


def saved_entry(entry, table):
    """Return an entry of a stack with the number of its object."""
    told = moved(told_entry(entry), table)
    return (entry[0], told[1]) if entry[0] in ("iterator", "cell") else told


def saved_entries(entries, table):
    """Return entries with the numbers of their objects."""
    return tuple([saved_entry(entry, table) for entry in entries])


def saved_frame(frame, table):
    """Return all that a frame holds."""
    return (
        frame.number,
        frame.at,
        frame.line,
        saved_entries(frame.slots, table),
        saved_entries(frame.cells, table),
        saved_entries(frame.stack, table),
        None if frame.owner is None else moved(frame.owner, table),
        frame.manner[:1] + saved_entries(frame.manner[1:], table),
        None if frame.inlined is None else frame.inlined.line,
    )


def saved_object(heap, value, table):
    """Return an object with the numbers of those to which it refers."""
    return heap.kind_of(value), heap.tag_of(value), saved_entries(heap.slots_of(value), table)


def load(text, *, schedule=()):
    """Return a machine that goes on with a saved run."""
    check_schedule(schedule)
    try:
        datum = read_datum(text)
    except BadDatum:
        raise BadSave("a text that is no datum note") from None
    need(is_tuple(datum, 9))
    machine = new_machine(datum[0], datum[1], schedule)
    restore_told(machine, datum)
    vetting = Vetting(machine)
    vetting.put(datum[8])
    vetting.ask_objects()
    restore_bindings(machine, vetting, datum[6])
    machine.frames = restored_frames(vetting, datum[7])
    ask_moment(machine)
    # What is left is what the form of a saved run leaves open: the order of names and objects.
    need(save(machine) == text)
    return machine


def new_machine(codes, options, schedule):
    """Return a machine for saved codes and options."""
    need(isinstance(codes, tuple) and all([has_code_form(fields) for fields in codes]) and is_tuple(options, 4))
    inputs, room, fuel, depth = options
    compiled = Compiled([code_of(fields) for fields in codes])
    try:
        return Machine(compiled, inputs=inputs, room=room, fuel=fuel, depth=depth, schedule=schedule)
    except (BadCode, BadOption):
        raise BadSave("codes or options that no run has") from None


def restore_told(machine, datum):
    """Give a machine what its run has told so far."""
    _, _, taken, prints, lines, ending, _, _, _ = datum
    need(is_between(taken, 0, len(machine.inputs)))
    need(isinstance(prints, tuple) and all([isinstance(row, str) for row in prints]))
    need(is_places(lines) and len(lines) <= machine.fuel)
    need(ending is None or is_ending(ending))
    machine.taken = taken
    machine.printed = list(prints)
    machine.stepped = list(lines)
    machine.ending = ending


def is_ending(ending):
    """Tell whether a datum may be the end of a run."""
    if ending in (("done",), ("steps",), ("room",)):
        return True
    if not is_tuple(ending, 2) or ending[0] != "error" or not isinstance(ending[1], tuple) or len(ending[1]) == 0:
        return False
    return all([is_told_error(row) for row in ending[1]])


def is_told_error(row):
    """Tell whether a datum may stand for an error in the end of a run."""
    return is_tuple(row, 3) and isinstance(row[0], str) and isinstance(row[1], str) and is_places(row[2])


def restore_bindings(machine, vetting, rows):
    """Give a machine its global names."""
    need(isinstance(rows, tuple))
    for row in rows:
        need(is_tuple(row, 2) and is_string(row[0]) and is_saved_value(row[1], len(vetting.table)))
        machine.bindings[row[0]] = vetting.renumbered(row[1])


def ask_moment(machine):
    """Refuse frames where a run has none, and none where it has some."""
    ending = machine.ending
    if ending is not None and ending[0] in ("done", "error"):
        need(not machine.frames)
    elif ending is None and not machine.frames:
        # The run has not begun.
        need(not machine.printed and not machine.stepped and not machine.bindings and machine.taken == 0)
    else:
        need(machine.frames and machine.count_frames() <= machine.depth)
