"""The compiler: programs as codes."""

from likerun.code import Code, Compiled
from likerun.emitting import Emitter, Scope
from likerun.numbering import is_comp, is_lambda, numbered_bodies
from likerun.phrasing import put_expr
from likerun.sentences import put_sentence, put_target
from likerun.shapes import if_parts
from likerun.values import NONE


def compile_program(program):
    """Return the codes of all units of a program."""
    bodies = numbered_bodies(program.units)
    return Compiled([compile_unit(program.units, unit, body) for unit, body in zip(program.units, bodies)])


def compile_unit(units, unit, body):
    """Return the code of a unit."""
    out = Emitter(units, unit)
    out.emit(("line", unit.line))
    if is_lambda(unit):
        put_expr(out, body)
    elif is_comp(unit):
        put_comp_unit(out, body)
    else:
        put_block(out, body)
        out.emit(("push", NONE))
    out.emit(("return",))
    return Code(
        unit.name, unit.line, out.told_rows(), parameters=unit.parameters, defaults=unit.defaults, slots=unit.slots,
        cells=unit.cells, free=unit.free, yields=unit.yields, handlers=out.told_handlers())


def put_comp_unit(out, body):
    """Put the loop of a comprehension, and its list."""
    _, element, target, condition = body
    again = out.new_label()
    behind = out.new_label()
    out.emit(("make_list", 0))
    out.put_name("store", ".out")
    out.put_name("load", ".items")
    out.emit(("get_iterator",))
    out.place(again)
    out.emit(("line", out.unit.line))
    out.emit(("fetch", behind))
    put_target(out, target)
    if condition is not None:
        put_expr(out, condition)
        out.emit(("jump_false", again))
    out.put_name("load", ".out")
    put_expr(out, element)
    out.emit(("append_item",))
    out.emit(("jump", again))
    out.place(behind)
    out.put_name("load", ".out")


def put_block(out, statements):
    """Put statements."""
    for statement in statements:
        kind = statement[0]
        if kind in BLOCKS:
            action = BLOCKS[kind]
            action(out, statement)
        elif kind not in ("global", "nonlocal"):
            put_sentence(out, statement)


def put_if(out, statement):
    """Put an if statement with its elif parts."""
    parts, other = if_parts(statement)
    behind = out.new_label()
    for line, test, body in parts:
        otherwise = out.new_label()
        out.emit(("line", line))
        put_expr(out, test)
        out.emit(("jump_false", otherwise))
        put_block(out, body)
        out.emit(("jump", behind))
        out.place(otherwise)
    put_block(out, other)
    out.place(behind)


def put_while(out, statement):
    """Put a while statement."""
    _, line, test, body, other = statement
    loop = Scope(False, out.depth, out.new_label())
    loop.again = out.new_label()
    otherwise = out.new_label()
    out.place(loop.again)
    out.emit(("line", line))
    put_expr(out, test)
    out.emit(("jump_false", otherwise))
    put_in_scope(out, loop, body)
    out.emit(("jump", loop.again))
    out.place(otherwise)
    put_block(out, other)
    out.place(loop.label)


def put_in_scope(out, scope, statements):
    """Put statements in a scope."""
    out.scopes.append(scope)
    put_block(out, statements)
    out.scopes.pop()


def put_for(out, statement):
    """Put a for statement; its iterator is held below what the body holds."""
    _, line, target, iterable, body, other = statement
    loop = Scope(False, out.depth, out.new_label())
    loop.again = out.new_label()
    loop.again_depth = out.depth + 1
    otherwise = out.new_label()
    out.emit(("line", line))
    put_expr(out, iterable)
    out.emit(("get_iterator",))
    out.place(loop.again)
    out.emit(("line", line))
    out.emit(("fetch", otherwise))
    put_target(out, target)
    out.depth += 1
    put_in_scope(out, loop, body)
    out.depth -= 1
    out.emit(("jump", loop.again))
    out.place(otherwise)
    put_block(out, other)
    out.place(loop.label)


def put_try(out, statement):
    """Put a try statement."""
    final = statement[5]
    if not final:
        put_clauses(out, statement)
        return
    start = out.here()
    taken = out.new_label()
    last = Scope(True, out.depth, out.new_label())
    out.scopes.append(last)
    put_clauses(out, statement)
    out.scopes.pop()
    out.protect(start, taken, out.depth)
    put_end(out, last, taken)
    out.depth += 1
    put_block(out, final)
    out.depth -= 1
    out.end_last("end_finally", last)


def put_end(out, last, taken):
    """Go on with a last part at the end of what it follows, and for the errors that are taken there."""
    out.emit(("leave", last.depth, 0))
    out.emit(("jump", last.label))
    out.place(taken)
    out.emit(("hold",))
    out.place(last.label)


def put_clauses(out, statement):
    """Put a try statement but for its last part."""
    _, _, body, clauses, other, _ = statement
    start = out.here()
    put_block(out, body)
    if not clauses:
        return
    taken = out.new_label()
    behind = out.new_label()
    out.protect(start, taken, out.depth)
    put_block(out, other)
    out.emit(("jump", behind))
    out.place(taken)
    out.depth += 1
    for clause in clauses:
        put_clause(out, clause, behind)
    if clauses[-1][1] is not None:
        out.emit(("again",))
    out.depth -= 1
    out.place(behind)


def put_clause(out, clause, behind):
    """Put a clause of a try statement; the error stands on the stack."""
    line, a, name, body = clause
    otherwise = out.new_label()
    out.emit(("line", line))
    if a is not None:
        put_expr(out, a)
        out.emit(("match",))
        out.emit(("jump_false", otherwise))
    if name is not None:
        out.emit(("load_handled",))
        out.put_name("store", name)
    put_block(out, body)
    out.emit(("drop_handled",))
    out.emit(("jump", behind))
    out.place(otherwise)


def put_with(out, statement):
    """Put a with statement; its object is held below what the body holds."""
    _, line, a, name, body = statement
    out.emit(("line", line))
    put_expr(out, a)
    out.emit(("enter_with",))
    if name is None:
        out.emit(("pop",))
    else:
        out.put_name("store", name)
    out.depth += 1
    start = out.here()
    taken = out.new_label()
    last = Scope(True, out.depth, out.new_label())
    put_in_scope(out, last, body)
    out.protect(start, taken, out.depth)
    put_end(out, last, taken)
    out.emit(("line", line))
    out.emit(("call_leave",))
    out.depth -= 1
    out.end_last("end_with", last)


BLOCKS = {
    "if": put_if,
    "while": put_while,
    "for": put_for,
    "try": put_try,
    "with": put_with,
}
