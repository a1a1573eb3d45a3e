"""The compiler of statements without blocks, and of classes."""

from likerun.phrasing import put_expr, put_exprs, put_function_of


def put_expression(out, statement):
    """Put a statement of an expression."""
    put_expr(out, statement[2])
    out.emit(("pop",))


def put_assign(out, statement):
    """Put an assignment."""
    put_expr(out, statement[3])
    put_target(out, statement[2])


def put_target(out, target):
    """Put what gives the value on top to a target."""
    kind = target[0]
    if kind == "name":
        out.put_name("store", target[1])
    elif kind == "attribute":
        put_expr(out, target[1])
        out.emit(("store_field", target[2]))
    elif kind == "item":
        put_exprs(out, target[1:])
        out.emit(("store_item",))
    else:
        out.emit(("unpack", len(target[1])))
        for item in target[1]:
            put_target(out, item)


def put_augment(out, statement):
    """Put an augmented assignment, which evaluates the parts of its target once."""
    _, _, target, op, a = statement
    if target[0] == "name":
        put_expr(out, target)
    elif target[0] == "attribute":
        put_expr(out, target[1])
        out.emit(("copy",))
        out.emit(("load_field", target[2]))
    else:
        put_exprs(out, target[1:])
        out.emit(("copy_two",))
        out.emit(("load_item",))
    put_expr(out, a)
    out.emit(("binary", op))
    if target[0] == "name":
        out.put_name("store", target[1])
    elif target[0] == "attribute":
        out.emit(("swap",))
        out.emit(("store_field", target[2]))
    else:
        out.emit(("lift",))
        out.emit(("store_item",))


def put_delete(out, statement):
    """Put a del."""
    target = statement[2]
    if target[0] == "name":
        out.put_name("delete", target[1])
    elif target[0] == "attribute":
        put_expr(out, target[1])
        out.emit(("delete_field", target[2]))
    else:
        put_exprs(out, target[1:])
        out.emit(("delete_item",))


def put_pass(out, statement):
    """Put a statement that does nothing but take its step."""


def put_break(out, statement):
    """Put a break."""
    out.put_jump_out(2)


def put_continue(out, statement):
    """Put a continue."""
    out.put_jump_out(3)


def put_return(out, statement):
    """Put a return."""
    put_expr(out, statement[2])
    out.put_return()


def put_raise(out, statement):
    """Put a raise."""
    parts = [part for part in statement[2:] if part is not None]
    put_exprs(out, parts)
    out.emit(("raise", len(parts)))


def put_def(out, statement):
    """Put a function and its name."""
    _, _, name, params, number = statement
    put_function_of(out, params, number)
    out.put_name("store", name)


def put_class(out, statement):
    """Put a class and its name."""
    _, _, name, base, items = statement
    put_expr(out, base)
    names = []
    for item in items:
        if item[0] == "assign":
            names.append(item[2][1])
            put_expr(out, item[3])
        elif item[0] == "def":
            names.append(item[2])
            put_function_of(out, item[3], item[4])
    out.emit(("make_class", name, tuple(names)))
    out.put_name("store", name)


SENTENCES = {
    "expr": put_expression,
    "assign": put_assign,
    "augment": put_augment,
    "delete": put_delete,
    "pass": put_pass,
    "break": put_break,
    "continue": put_continue,
    "return": put_return,
    "raise": put_raise,
    "def": put_def,
    "class": put_class,
}


def put_sentence(out, statement):
    """Put the step of a statement without blocks, and what it does."""
    out.emit(("line", statement[1]))
    action = SENTENCES[statement[0]]
    action(out, statement)
