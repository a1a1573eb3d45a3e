"""The instructions of the machine that call, loop, raise, and leave what stands around them."""

from likerun.activation import Inlined, need_value
from likerun.calling import call_enter, call_leave, call_value, check_depth, leave_by_return, leave_by_yield, resume
from likerun.errors import MachineFault
from likerun.fields import fetch, get_iterator
from likerun.forms import listed
from likerun.raising import raise_again, raise_anew, raise_from, takes_error, throw
from likerun.values import NONE, UNSET, is_kind, is_true


def do_call(run, frame, instruction):
    """Call a value."""
    _, many, names = instruction
    parts = frame.take_values(1 + many + len(names))
    call_value(run, parts[0], parts[1:many + 1], list(zip(names, parts[many + 1:])))


def do_return(run, frame, instruction):
    """Return the value on top."""
    leave_by_return(run, frame.take_value())


def do_yield(run, frame, instruction):
    """Yield the value on top."""
    value = frame.take_value()
    if frame.owner is None:
        raise MachineFault("a yield in a frame of no generator")
    leave_by_yield(run, value)


def do_get_iterator(run, frame, instruction):
    """Get an iterator of the value on top."""
    frame.push(("iterator", get_iterator(run.memory, frame.take_value())[1]))


def do_fetch(run, frame, instruction):
    """Fetch the next item of the iterator on top."""
    iterator = ("ref", frame.pick_mark("iterator", 0)[1])
    if is_kind(run.memory, iterator, "generator"):
        resume(run, iterator, ("fetch",), NONE)
        return
    item = fetch(run.memory, iterator)
    if item is None:
        run.give_no_item()
    else:
        frame.push(item)


def do_raise(run, frame, instruction):
    """Raise an error, perhaps with a cause, or again."""
    parts = frame.take_values(instruction[1])
    if not parts:
        raise_again(run)
    elif len(parts) == 1:
        raise_anew(run, parts[0])
    else:
        raise_from(run, parts[0], parts[1])


def do_match(run, frame, instruction):
    """Tell whether the class on top takes the error below."""
    value = frame.take_value()
    error = frame.pick_mark("handled", 0)
    frame.push(("truth", takes_error(run.memory, value, ("ref", error[1]))))


def do_load_handled(run, frame, instruction):
    """Load the error that is being handled."""
    frame.push(("ref", frame.pick_mark("handled", 0)[1]))


def do_drop_handled(run, frame, instruction):
    """End the handling of an error."""
    frame.take_mark("handled")


def do_again(run, frame, instruction):
    """Raise the error that is being handled again, as it is."""
    throw(run, ("ref", frame.take_mark("handled")[1]))


def do_leave(run, frame, instruction):
    """Leave a block for a reason, which is pending then."""
    _, depth, reason = instruction
    inner = frame.take_value() if reason == 1 else NONE
    frame.cut(depth)
    frame.push(("pending", reason, inner))


def do_hold(run, frame, instruction):
    """Let the error that is being handled be pending."""
    frame.push(("pending", 4, frame.take_mark("handled")))


def do_end_finally(run, frame, instruction):
    """Go on as the block was left."""
    go_on_with(run, frame, instruction, frame.take_mark("pending"))


def go_on_with(run, frame, instruction, pending):
    """Go on for a reason that was pending."""
    _, reason, inner = pending
    if reason == 4:
        throw(run, ("ref", inner[1]))
    elif reason > 0:
        if reason == 1:
            frame.push(inner)
        frame.at = instruction[reason]


def do_cut(run, frame, instruction):
    """Cut the stack."""
    frame.cut(instruction[1])


def do_enter_with(run, frame, instruction):
    """Call what the object on top, which stays there, has for the beginning."""
    call_enter(run, need_value(frame.pick(0)))


def do_call_leave(run, frame, instruction):
    """Call what the object below what is pending has for the end."""
    _, reason, inner = frame.pick_mark("pending", 0)
    error = ("ref", inner[1]) if reason == 4 else NONE
    call_leave(run, need_value(frame.pick(1)), error)


def do_end_with(run, frame, instruction):
    """Go on as the block was left, unless that was an error and the result on top drops it."""
    result = frame.take_value()
    pending = frame.take_mark("pending")
    frame.take_value()
    if pending[1] != 4 or not is_true(run.memory, result):
        go_on_with(run, frame, instruction, pending)


def do_guard(run, frame, instruction):
    """Go on at the target if the function below the arguments is not one of a unit."""
    _, number, many, target = instruction
    values = [need_value(frame.pick(below)) for below in range(many + 1)]
    function = values[-1]
    if not is_kind(run.memory, function, "function") or run.memory.tag_of(function)[0] != number:
        frame.at = target


def do_enter_inline(run, frame, instruction):
    """Open an inlined function, with its arguments in its slots."""
    _, number, first = instruction
    unit = run.units[number]
    values = frame.take_values(1 + len(listed(unit.parameters)))
    if frame.inlined is not None:
        raise MachineFault("an inlined function within another one")
    check_depth(run)
    entries = values[1:] + [UNSET] * (len(unit.slots) - len(values) + 1)
    for at, entry in enumerate(entries):
        frame.slots[first + at] = entry
    frame.inlined = Inlined(number, unit, first)


def do_leave_inline(run, frame, instruction):
    """Close an inlined function, whose value is on top."""
    need_value(frame.pick(0))
    inner = frame.inlined
    if inner is None or instruction[1:] != (inner.number, inner.first):
        raise MachineFault("an inlined function that is not open")
    frame.close_inlined()


ACTING = {
    "call": do_call,
    "return": do_return,
    "yield": do_yield,
    "get_iterator": do_get_iterator,
    "fetch": do_fetch,
    "raise": do_raise,
    "match": do_match,
    "load_handled": do_load_handled,
    "drop_handled": do_drop_handled,
    "again": do_again,
    "leave": do_leave,
    "hold": do_hold,
    "end_finally": do_end_finally,
    "cut": do_cut,
    "enter_with": do_enter_with,
    "call_leave": do_call_leave,
    "end_with": do_end_with,
    "guard": do_guard,
    "enter_inline": do_enter_inline,
    "leave_inline": do_leave_inline,
}
