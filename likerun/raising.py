"""Errors of a run: how they are raised, what leads to them, and how they are told."""

from likerun.errors import Fault
from likerun.fields import is_error, is_error_class, is_within, own_field, put_field
from likerun.showing import class_name, show
from likerun.values import NONE, is_kind


def raise_new(run, name, value):
    """Raise a new error of the language with a message."""
    error = run.memory.make("instance", (("message",), ()), [("errorclass", name), value])
    set_trace(run, error)
    set_context(run, error)
    throw(run, error)


def raise_anew(run, error):
    """Raise an error of the program."""
    if not is_error(run.memory, error):
        raise Fault("KindError", NONE)
    set_trace(run, error)
    set_context(run, error)
    throw(run, error)


def raise_from(run, error, cause):
    """Raise an error of the program with a cause."""
    memory = run.memory
    if not is_error(memory, error) or cause != NONE and not is_error(memory, cause):
        raise Fault("KindError", NONE)
    set_trace(run, error)
    put_field(memory, error, "cause", cause)
    throw(run, error)


def raise_again(run):
    """Raise the error that is being handled again, as it is."""
    error = handled_error(run)
    if error is None:
        raise Fault("FlowError", NONE)
    throw(run, error)


def set_trace(run, error):
    """Tell an error the frames as they are at the moment."""
    names = run.memory.tag_of(error)[0]
    run.memory.change(error, (names, run.places()), run.memory.slots_of(error))


def set_context(run, error):
    """Make the error that is being handled the cause of an error that has none."""
    handled = handled_error(run)
    if handled is not None and handled != error and own_field(run.memory, error, "cause") is None:
        put_field(run.memory, error, "cause", handled)


def handled_error(run):
    """Return the error that is being handled and counts first; None if there is none."""
    for frame in run.frames[::-1]:
        error = frame.handled_here()
        if error is not None:
            return error
    return None


def throw(run, error):
    """Let an error go on to the first handler that takes it, or out of the run."""
    while run.frames:
        if run.handle(error):
            return
        error = leave_by_error(run, error)
        if error is None:
            return
    run.ending = ("error", error_chain(run.memory, error))


def leave_by_error(run, error):
    """Take off the innermost frame, which an error leaves, and return the error that goes on; None if it is dropped."""
    frame = run.frames[-1]
    if frame.owner is None:
        run.frames.pop()
        return error
    cls = run.memory.slot(error, 0)
    if is_within(run.memory, cls, ("errorclass", "StopError")):
        fields = (("message", "cause"), run.places())
        error = run.memory.make("instance", fields, [("errorclass", "FlowError"), NONE, error])
    run.end_generator(frame.owner)
    run.frames.pop()
    if frame.manner[0] == "close" and is_within(run.memory, cls, ("errorclass", "CloseError")):
        run.give(NONE)
        return None
    return error


def error_chain(memory, error):
    """Return the names, messages and traces of an error, of its cause, and so on."""
    met = {}
    found = []
    while error is not None and is_error(memory, error) and error not in met:
        met[error] = True
        name = class_name(memory, memory.slot(error, 0))
        found.append((name, message_of(memory, error), memory.tag_of(error)[1]))
        error = own_field(memory, error, "cause")
    return tuple(found)


def message_of(memory, error):
    """Return what shows the message of an error."""
    message = own_field(memory, error, "message")
    if message is None or message == NONE:
        return ""
    try:
        return show(memory, message)
    except Fault:
        return "..."


def takes_error(memory, value, error):
    """Tell whether the class, or the tuple of classes, behind "except" takes an error."""
    classes = [value]
    if is_kind(memory, value, "tuple"):
        classes = memory.slots_of(value)
    if not all([is_error_class(memory, cls) for cls in classes]):
        raise Fault("KindError", NONE)
    cls = memory.slot(error, 0)
    return any([is_within(memory, cls, other) for other in classes])
