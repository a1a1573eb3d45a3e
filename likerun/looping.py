"""The plain reading of loops and comprehensions."""

from likerun.calling import resume
from likerun.fields import fetch, get_iterator
from likerun.natives import call_native
from likerun.values import NONE, is_kind, is_true


def begin_while(run, frame, task):
    """Begin with a while statement."""
    statement = task[1]
    frame.plan([("while", len(frame.stack), statement)])


def step_while(run, frame, task):
    """Begin with the test of a while statement."""
    statement = task[2]
    run.take_step(frame, statement[1])
    frame.plan([("eval", statement[2]), ("while_test", task)])


def test_while(run, frame, task):
    """Go on with the body of a while statement or with its else part."""
    loop = task[1]
    if is_true(run.memory, frame.stack.pop()):
        frame.plan_block(loop[2][3], [loop])
    else:
        frame.plan_block(loop[2][4], [])


def begin_for(run, frame, task):
    """Begin with the iterable of a for statement; its iterator is held below what the body holds."""
    statement = task[1]
    run.take_step(frame, statement[1])
    frame.plan([("eval", statement[3]), ("iterate",), ("for", len(frame.stack), statement)])


def iterate(run, frame, task):
    """Get an iterator of the value on top."""
    frame.stack.append(get_iterator(run.memory, frame.stack.pop()))


def step_for(run, frame, task):
    """Take the step before a fetch."""
    run.take_step(frame, task[2][1])
    frame.plan([("fetch",), ("for_item", task)])


def fetch_item(run, frame, task):
    """Fetch the next item of the iterator on top."""
    iterator = frame.stack[-1]
    if is_kind(run.memory, iterator, "generator"):
        resume(run, iterator, ("fetch",), NONE)
        return
    item = fetch(run.memory, iterator)
    if item is None:
        run.give_no_item()
    else:
        run.give(item)


def bind_for(run, frame, task):
    """Bind the item on top, and go on with the body of a for statement."""
    loop = task[1]
    statement = loop[2]
    frame.plan_block(statement[4], [loop])
    frame.plan([("assign", statement[2])])


def end_loop(frame):
    """Go on behind the items of a loop, none of which is left: the frame's next task would take one."""
    task = frame.agenda.pop()
    frame.stack.pop()
    if task[0] == "for_item":
        frame.plan_block(task[1][2][5], [])
    else:
        frame.stack.append(frame.local[".out"])
        frame.plan([("return",)])


def begin_comp_unit(run, frame, task):
    """Begin with the list and the iterator of a comprehension."""
    frame.local[".out"] = run.memory.make("list", None, [])
    frame.stack.append(get_iterator(run.memory, frame.local[".items"]))
    frame.plan([("comp_step", task[1])])


def step_comp(run, frame, task):
    """Take the step before a fetch of a comprehension."""
    run.take_step(frame, frame.unit.line)
    frame.plan([("fetch",), ("comp_item", task[1])])


def bind_comp(run, frame, task):
    """Bind the item on top, and go on with the condition or the element of a comprehension."""
    _, element, target, condition = task[1]
    rest = [("eval", element), ("comp_append",)]
    if condition is not None:
        rest = [("eval", condition), ("comp_test", element)]
    frame.plan([("assign", target)] + rest + [("comp_step", task[1])])


def test_comp(run, frame, task):
    """Go on with the element of a comprehension if its condition is true."""
    if is_true(run.memory, frame.stack.pop()):
        frame.plan([("eval", task[1]), ("comp_append",)])


def append_comp(run, frame, task):
    """Append an element to the list of a comprehension."""
    call_native(run.memory, "append", frame.local[".out"], [frame.stack.pop()])


LOOPING = {
    "begin while": begin_while,
    "begin for": begin_for,
    "while": step_while,
    "while_test": test_while,
    "iterate": iterate,
    "for": step_for,
    "fetch": fetch_item,
    "for_item": bind_for,
    "comp": begin_comp_unit,
    "comp_step": step_comp,
    "comp_item": bind_comp,
    "comp_test": test_comp,
    "comp_append": append_comp,
}
