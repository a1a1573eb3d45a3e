"""The plain reading of statements that are no loops and guard nothing.

A statement takes its step first and plans the rest, so that nothing of it has begun when the step has been taken.
"""

from likerun.control import follow
from likerun.errors import Fault
from likerun.evaluating import evals, function_tasks, pop_many
from likerun.fields import delete_field, is_class, load_field, store_field
from likerun.frames import bind_entry, delete_name
from likerun.methods import need_items
from likerun.operations import delete_item, load_item, store_item
from likerun.raising import raise_again, raise_anew, raise_from
from likerun.values import NONE, is_true


def begin_expr(run, frame, task):
    """Begin with a statement of an expression."""
    statement = task[1]
    run.take_step(frame, statement[1])
    frame.plan([("eval", statement[2]), ("drop",)])


def drop_value(run, frame, task):
    """Drop the value of an expression."""
    frame.stack.pop()


def begin_assign(run, frame, task):
    """Begin with an assignment."""
    statement = task[1]
    run.take_step(frame, statement[1])
    frame.plan([("eval", statement[3]), ("assign", statement[2])])


def assign(run, frame, task):
    """Assign the value on top to a target."""
    target = task[1]
    if target[0] == "name":
        bind_entry(run, frame, target[1], frame.stack.pop())
    elif target[0] == "attribute":
        frame.plan([("eval", target[1]), ("store_field", target[2])])
    elif target[0] == "item":
        frame.plan([("eval", target[1]), ("eval", target[2]), ("store_item",)])
    else:
        unpack(run, frame, target[1])


def unpack(run, frame, targets):
    """Assign the items of the value on top to targets."""
    items = need_items(run.memory, frame.stack.pop())
    if len(items) != len(targets):
        raise Fault("ValueError", NONE)
    frame.stack.extend(items[::-1])
    frame.plan([("assign", target) for target in targets])


def finish_store_field(run, frame, task):
    """Store a value in an attribute of the object on top."""
    value, a = pop_many(frame, 2)
    store_field(run.memory, a, task[1], value)


def finish_store_item(run, frame, task):
    """Store a value in an item; its object and index are on top."""
    value, a, index = pop_many(frame, 3)
    store_item(run.memory, a, index, value)


def begin_augment(run, frame, task):
    """Begin with an augmented assignment, which evaluates the parts of its target once."""
    _, line, target, op, a = task[1]
    run.take_step(frame, line)
    rest = [("eval", a), ("binary", op)]
    if target[0] == "name":
        frame.plan([("eval", target)] + rest + [("assign", target)])
    elif target[0] == "attribute":
        name = target[2]
        frame.plan([("eval", target[1]), ("keep_field", name)] + rest + [("change_field", name)])
    else:
        frame.plan(evals(target[1:]) + [("keep_item",)] + rest + [("change_item",)])


def keep_field(run, frame, task):
    """Load an attribute of the object on top, which stays there."""
    frame.stack.append(load_field(run.memory, frame.stack[-1], task[1]))


def change_field(run, frame, task):
    """Store the value on top in an attribute of the object below."""
    a, value = pop_many(frame, 2)
    store_field(run.memory, a, task[1], value)


def keep_item(run, frame, task):
    """Load the item for the object and the index on top, which stay there."""
    a, index = frame.stack[-2:]
    frame.stack.append(load_item(run.memory, a, index))


def change_item(run, frame, task):
    """Store the value on top in the item for the object and the index below."""
    a, index, value = pop_many(frame, 3)
    store_item(run.memory, a, index, value)


def begin_delete(run, frame, task):
    """Begin with a del."""
    statement = task[1]
    run.take_step(frame, statement[1])
    target = statement[2]
    if target[0] == "name":
        frame.plan([("delete_name", target[1])])
    elif target[0] == "attribute":
        frame.plan([("eval", target[1]), ("delete_field", target[2])])
    else:
        frame.plan(evals(target[1:]) + [("delete_item",)])


def finish_delete_name(run, frame, task):
    """Unbind a name."""
    delete_name(run, frame, task[1])


def finish_delete_field(run, frame, task):
    """Remove an attribute of the object on top."""
    delete_field(run.memory, frame.stack.pop(), task[1])


def finish_delete_item(run, frame, task):
    """Remove the item for the object and the index on top."""
    a, index = pop_many(frame, 2)
    delete_item(run.memory, a, index)


def begin_pass(run, frame, task):
    """Take the step of a statement that does nothing."""
    run.take_step(frame, task[1][1])


def begin_leave(run, frame, task):
    """Begin with a break or continue."""
    statement = task[1]
    run.take_step(frame, statement[1])
    frame.plan([("leave", (statement[0],))])


def leave(run, frame, task):
    """Leave what stands around the statement in this way."""
    follow(run, frame, task[1])


def begin_return(run, frame, task):
    """Begin with a return."""
    statement = task[1]
    run.take_step(frame, statement[1])
    frame.plan([("eval", statement[2]), ("return",)])


def finish_return(run, frame, task):
    """Return the value on top."""
    follow(run, frame, ("return", frame.stack.pop()))


def begin_raise(run, frame, task):
    """Begin with a raise."""
    statement = task[1]
    run.take_step(frame, statement[1])
    parts = [part for part in statement[2:] if part is not None]
    frame.plan(evals(parts) + [("raise", len(parts))])


def finish_raise(run, frame, task):
    """Raise an error, perhaps with a cause, or again."""
    parts = pop_many(frame, task[1])
    if not parts:
        raise_again(run)
    elif len(parts) == 1:
        raise_anew(run, parts[0])
    else:
        raise_from(run, parts[0], parts[1])


def begin_def(run, frame, task):
    """Begin with the defaults of a function."""
    statement = task[1]
    run.take_step(frame, statement[1])
    frame.plan(function_tasks(statement[3], statement[4]) + [("assign", ("name", statement[2]))])


def begin_class(run, frame, task):
    """Begin with the base and the items of a class."""
    _, line, name, base, items = task[1]
    run.take_step(frame, line)
    tasks = [("eval", base)]
    names = []
    for item in items:
        if item[0] == "assign":
            names.append(item[2][1])
            tasks.append(("eval", item[3]))
        elif item[0] == "def":
            names.append(item[2])
            tasks.extend(function_tasks(item[3], item[4]))
    frame.plan(tasks + [("class", name, tuple(names)), ("assign", ("name", name))])


def finish_class(run, frame, task):
    """Make a class."""
    _, name, names = task
    slots = pop_many(frame, len(names) + 1)
    if slots[0] != NONE and not is_class(run.memory, slots[0]):
        raise Fault("KindError", NONE)
    frame.stack.append(run.memory.make("class", (name, names), slots))


def begin_if(run, frame, task):
    """Begin with the test of an if statement."""
    statement = task[1]
    run.take_step(frame, statement[1])
    frame.plan([("eval", statement[2]), ("if", statement[3], statement[4])])


def finish_if(run, frame, task):
    """Go on with the block that the test chooses."""
    chosen = task[1] if is_true(run.memory, frame.stack.pop()) else task[2]
    frame.plan_block(chosen, [])


def do_nothing(run, frame, task):
    """A declaration takes no step, and has done its work when the units were made."""


EXECUTING = {
    "begin expr": begin_expr,
    "begin assign": begin_assign,
    "begin augment": begin_augment,
    "begin delete": begin_delete,
    "begin pass": begin_pass,
    "begin break": begin_leave,
    "begin continue": begin_leave,
    "begin return": begin_return,
    "begin raise": begin_raise,
    "begin def": begin_def,
    "begin class": begin_class,
    "begin if": begin_if,
    "begin global": do_nothing,
    "begin nonlocal": do_nothing,
    "drop": drop_value,
    "assign": assign,
    "store_field": finish_store_field,
    "store_item": finish_store_item,
    "keep_field": keep_field,
    "change_field": change_field,
    "keep_item": keep_item,
    "change_item": change_item,
    "delete_name": finish_delete_name,
    "delete_field": finish_delete_field,
    "delete_item": finish_delete_item,
    "leave": leave,
    "return": finish_return,
    "raise": finish_raise,
    "class": finish_class,
    "if": finish_if,
}
