"""The plain reading of expressions: what each form plans to do, and the tasks that finish it."""

from likerun.calling import call_value, leave_by_return, leave_by_yield
from likerun.fields import load_field
from likerun.frames import load_name
from likerun.operations import binary, compare, load_item, load_slice, store_item, unary
from likerun.values import NONE, is_true


def evaluate(run, frame, task):
    """Begin with an expression, which may be missing: then its value is none."""
    tree = task[1]
    if tree is None:
        frame.stack.append(NONE)
    elif tree[0] in FORMS:
        action = FORMS[tree[0]]
        action(run, frame, tree)
    else:
        # A constant has the form of its value.
        frame.stack.append(tree)


def evals(trees):
    """Return the tasks that evaluate expressions."""
    return [("eval", tree) for tree in trees]


def pop_many(frame, many):
    """Take so many values from the top of what the frame holds, and return them in the order of their making."""
    at = len(frame.stack) - many
    values = frame.stack[at:]
    frame.cut(at)
    return values


def begin_name(run, frame, tree):
    """Evaluate a name."""
    frame.stack.append(load_name(run, frame, tree[1]))


def begin_items(run, frame, tree):
    """Begin with a tuple or a list."""
    frame.plan(evals(tree[1]) + [("gather", tree[0], len(tree[1]))])


def finish_items(run, frame, task):
    """Make a tuple or a list."""
    items = pop_many(frame, task[2])
    frame.stack.append(run.memory.make(task[1], None, items))


def begin_dict(run, frame, tree):
    """Begin with a dict."""
    parts = [part for pair in tree[1] for part in pair]
    frame.plan(evals(parts) + [("gather_dict", len(parts))])


def finish_dict(run, frame, task):
    """Make a dict."""
    parts = pop_many(frame, task[1])
    value = run.memory.make("dict", None, [])
    for at in range(0, len(parts), 2):
        store_item(run.memory, value, parts[at], parts[at + 1])
    frame.stack.append(value)


def begin_unary(run, frame, tree):
    """Begin with the operand of a sign."""
    frame.plan([("eval", tree[2]), ("unary", tree[1])])


def finish_unary(run, frame, task):
    """Apply a sign to its operand."""
    frame.stack.append(unary(run.memory, task[1], frame.stack.pop()))


def begin_binary(run, frame, tree):
    """Begin with the operands of a sign."""
    frame.plan([("eval", tree[2]), ("eval", tree[3]), ("binary", tree[1])])


def finish_binary(run, frame, task):
    """Apply a sign to its operands."""
    a, b = pop_many(frame, 2)
    frame.stack.append(binary(run.memory, task[1], a, b))


def begin_compare(run, frame, tree):
    """Begin with a chain of comparisons."""
    op, b = tree[2][0]
    frame.plan([("eval", tree[1]), ("eval", b), ("link", tree[2], 0)])


def finish_link(run, frame, task):
    """Compare two operands of a chain, and go on with the chain if it is neither false nor over."""
    _, links, at = task
    a, b = pop_many(frame, 2)
    found = compare(run.memory, links[at][0], a, b)
    if at + 1 == len(links) or not is_true(run.memory, found):
        frame.stack.append(found)
    else:
        frame.stack.append(b)
        frame.plan([("eval", links[at + 1][1]), ("link", links, at + 1)])


def begin_choice(run, frame, tree):
    """Begin with operands of "and" or "or", the first of which that decides gives its value."""
    frame.plan([("eval", tree[1][0]), ("decide", tree[0] == "or", tree[1], 1)])


def finish_choice(run, frame, task):
    """Go on with the next operand, unless one has decided or none is left."""
    _, deciding, items, at = task
    if at < len(items) and is_true(run.memory, frame.stack[-1]) != deciding:
        frame.stack.pop()
        frame.plan([("eval", items[at]), ("decide", deciding, items, at + 1)])


def begin_choose(run, frame, tree):
    """Begin with the test of a choice."""
    frame.plan([("eval", tree[1]), ("choose", tree[2], tree[3])])


def finish_choose(run, frame, task):
    """Go on with what a test has chosen."""
    chosen = task[1] if is_true(run.memory, frame.stack.pop()) else task[2]
    frame.plan([("eval", chosen)])


def begin_lambda(run, frame, tree):
    """Begin with the defaults of a lambda."""
    frame.plan(function_tasks(tree[1], tree[2]))


def function_tasks(params, number):
    """Return the tasks that make a function of a unit."""
    defaults = [default for _, default in params if default is not None]
    return evals(defaults) + [("function", number, len(defaults))]


def finish_function(run, frame, task):
    """Make a function."""
    _, number, many = task
    unit = run.units[number]
    cells = [frame.cells[name] for name in unit.free]
    slots = pop_many(frame, many) + cells
    frame.stack.append(run.memory.make("function", (number, unit.name), slots))


def begin_comp(run, frame, tree):
    """Begin with the iterable of a comprehension, and call the function of its unit with it."""
    # The function may as well be made first: that has no effect which the iterable could meet.
    frame.plan([("function", tree[2], 0), ("eval", tree[1]), ("call", 1, ())])


def begin_call(run, frame, tree):
    """Begin with a function and its arguments."""
    names = tuple([name for name, _ in tree[3]])
    parts = [tree[1]] + list(tree[2]) + [part for _, part in tree[3]]
    frame.plan(evals(parts) + [("call", len(tree[2]), names)])


def finish_call(run, frame, task):
    """Call a function."""
    _, many, names = task
    named = list(zip(names, pop_many(frame, len(names))))
    given = pop_many(frame, many)
    call_value(run, frame.stack.pop(), given, named)


def begin_attribute(run, frame, tree):
    """Begin with the object of an attribute."""
    frame.plan([("eval", tree[1]), ("load_field", tree[2])])


def finish_attribute(run, frame, task):
    """Load an attribute."""
    frame.stack.append(load_field(run.memory, frame.stack.pop(), task[1]))


def begin_item(run, frame, tree):
    """Begin with the object and the index of an item."""
    frame.plan([("eval", tree[1]), ("eval", tree[2]), ("load_item",)])


def finish_item(run, frame, task):
    """Load an item."""
    a, index = pop_many(frame, 2)
    frame.stack.append(load_item(run.memory, a, index))


def begin_slice(run, frame, tree):
    """Begin with the object and the bounds of a slice."""
    frame.plan(evals(tree[1:]) + [("load_slice",)])


def finish_slice(run, frame, task):
    """Load a slice."""
    a, low, high, step = pop_many(frame, 4)
    frame.stack.append(load_slice(run.memory, a, low, high, step))


def begin_yield(run, frame, tree):
    """Begin with the value of a yield."""
    frame.plan([("eval", tree[1]), ("yield",)])


def finish_yield(run, frame, task):
    """Yield a value."""
    leave_by_yield(run, frame.stack.pop())


def finish_body(run, frame, task):
    """Return the value of a lambda's body."""
    leave_by_return(run, frame.stack.pop())


FORMS = {
    "name": begin_name,
    "tuple": begin_items,
    "list": begin_items,
    "dict": begin_dict,
    "comp": begin_comp,
    "unary": begin_unary,
    "binary": begin_binary,
    "compare": begin_compare,
    "and": begin_choice,
    "or": begin_choice,
    "choose": begin_choose,
    "lambda": begin_lambda,
    "call": begin_call,
    "attribute": begin_attribute,
    "item": begin_item,
    "slice": begin_slice,
    "yield": begin_yield,
}
EVALUATING = {
    "eval": evaluate,
    "gather": finish_items,
    "gather_dict": finish_dict,
    "unary": finish_unary,
    "binary": finish_binary,
    "link": finish_link,
    "decide": finish_choice,
    "choose": finish_choose,
    "function": finish_function,
    "call": finish_call,
    "load_field": finish_attribute,
    "load_item": finish_item,
    "load_slice": finish_slice,
    "yield": finish_yield,
    "body": finish_body,
}
