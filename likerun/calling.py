"""Calls, and how generators go on: what all runs do alike."""

from likerun.errors import Fault
from likerun.fields import find_field, is_error_class, put_field
from likerun.natives import bind, call_builtin, call_native, check_many
from likerun.showing import text_of
from likerun.sizes import TEXT_LIMIT, check_size
from likerun.values import NONE, is_kind, kind_word


def call_value(run, function, given, named):
    """Call a value with arguments; its result is given to the innermost frame, perhaps later."""
    kind = kind_word(run.memory, function)
    if kind == "function":
        call_function(run, function, given, named, ("call",))
    elif kind == "class":
        call_class(run, function, given, named)
    elif kind == "method":
        call_method(run, function, given, named)
    elif kind == "builtin":
        refuse_named(named)
        call_by_name(run, function[1], given)
    else:
        raise Fault("KindError", NONE)


def refuse_named(named):
    """Refuse named arguments."""
    if named:
        raise Fault("KindError", NONE)


def call_function(run, function, given, named, manner):
    """Call a function; its manner tells what is done with its result."""
    number = run.memory.tag_of(function)[0]
    unit = run.units[number]
    values = bind(run.memory, unit, function, given, named)
    if unit.yields:
        give_result(run, manner, run.new_generator(number, function, values))
        return
    check_depth(run)
    run.enter_unit(number, function, values, manner)


def check_depth(run):
    """Refuse one frame more if there are as many as there may be."""
    if run.count_frames() >= run.depth:
        raise Fault("DepthError", NONE)


def give_result(run, manner, value):
    """Give the result of a function to the frame that called it; that of "init" is dropped for the instance."""
    if manner[0] == "init":
        run.give(manner[1])
    else:
        run.give(value)


def call_class(run, cls, given, named):
    """Make an instance of a class."""
    memory = run.memory
    many = 0
    instance = memory.make("instance", ((), ()), [cls])
    if is_error_class(memory, cls):
        many = 1
        put_field(memory, instance, "message", NONE)
    init = find_field(memory, cls, "init")
    if init is None:
        refuse_named(named)
        check_many(given, 0, many)
        if given:
            put_field(memory, instance, "message", given[0])
        run.give(instance)
    elif is_kind(memory, init, "function"):
        call_function(run, init, [instance] + given, named, ("init", instance))
    else:
        raise Fault("KindError", NONE)


def call_method(run, method, given, named):
    """Call a method of a class or of a value."""
    held = run.memory.slots_of(method)
    if len(held) == 2:
        call_function(run, held[1], [held[0]] + given, named, ("call",))
        return
    refuse_named(named)
    name = run.memory.tag_of(method)
    if not is_kind(run.memory, held[0], "generator"):
        run.give(call_native(run.memory, name, held[0], given))
    elif name == "send":
        check_many(given, 1, 1)
        resume(run, held[0], ("send",), given[0])
    else:
        check_many(given, 0, 0)
        resume(run, held[0], ("close",), NONE)


def call_by_name(run, name, given):
    """Call a builtin function."""
    if name == "print":
        print_values(run, given)
    elif name == "take":
        check_many(given, 0, 0)
        run.give(take_input(run))
    elif name == "next" and given and is_kind(run.memory, given[0], "generator"):
        check_many(given, 1, 2)
        resume(run, given[0], ("next",) + tuple(given[1:]), NONE)
    else:
        run.give(call_builtin(run.memory, name, given))


def print_values(run, given):
    """Print values on one line."""
    words = [text_of(run.memory, value) for value in given]
    check_size(sum([len(word) for word in words]) + max(0, len(words) - 1), TEXT_LIMIT)
    run.printed.append(" ".join(words))
    run.give(NONE)


def take_input(run):
    """Return the next input as a value."""
    if run.taken == len(run.inputs):
        raise Fault("StopError", NONE)
    item = run.inputs[run.taken]
    run.taken += 1
    if isinstance(item, str):
        return ("text", item)
    return ("number", item)


def call_enter(run, m):
    """Call what a with statement calls first, for its object."""
    functions = [None, None]
    if is_kind(run.memory, m, "instance"):
        cls = run.memory.slot(m, 0)
        functions = [find_field(run.memory, cls, "enter"), find_field(run.memory, cls, "leave")]
    for function in functions:
        need_function(run, function)
    call_function(run, functions[0], [m], [], ("call",))


def call_leave(run, m, error):
    """Call what a with statement calls at its end, for its object and an error or none."""
    function = None
    if is_kind(run.memory, m, "instance"):
        function = find_field(run.memory, run.memory.slot(m, 0), "leave")
    need_function(run, function)
    call_function(run, function, [m, error], [], ("call",))


def need_function(run, value):
    """Refuse what is no function of the program."""
    if value is None or not is_kind(run.memory, value, "function"):
        raise Fault("KindError", NONE)


def resume(run, generator, manner, value):
    """Let a generator go on; its manner tells what is done with what comes of it."""
    state = run.memory.tag_of(generator)[0]
    if state == "running":
        raise Fault("FlowError", NONE)
    if state == "ended":
        give_nothing(run, manner, NONE)
    elif state == "new" and manner[0] == "close":
        run.end_generator(generator)
        run.give(NONE)
    elif state == "new" and manner[0] == "send" and value != NONE:
        raise Fault("KindError", NONE)
    else:
        check_depth(run)
        run.wake(generator, manner)
        if state == "waiting":
            # The generator's frame is the innermost one now.
            if manner[0] == "close":
                raise Fault("CloseError", NONE)
            run.give(value)


def give_nothing(run, manner, value):
    """Tell the innermost frame that a generator has no item, but perhaps a value with which it ended."""
    if manner[0] == "fetch":
        run.give_no_item()
    elif manner[0] == "close":
        run.give(NONE)
    elif len(manner) == 2:
        run.give(manner[1])
    else:
        raise Fault("StopError", value)


def leave_by_return(run, value):
    """Take off the innermost frame, which returns a value."""
    frame = run.frames.pop()
    if not run.frames:
        run.ending = ("done",)
    elif frame.owner is None:
        give_result(run, frame.manner, value)
    else:
        run.end_generator(frame.owner)
        give_nothing(run, frame.manner, value)


def leave_by_yield(run, value):
    """Take off the innermost frame, which waits after it has yielded a value."""
    frame = run.frames.pop()
    run.suspend(frame)
    if frame.manner[0] == "close":
        raise Fault("FlowError", NONE)
    run.give(value)
