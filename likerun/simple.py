"""The statements of one logical line, read from tokens into their trees."""

from likerun.expressions import read_expr, read_exprs

PLACES = ("name", "attribute", "item")
AUGMENTING = {"+=": "+", "-=": "-", "*=": "*", "//=": "//"}


def read_simple(cursor):
    """Read a statement that has no block, with the end of its line."""
    statement = read_statement_line(cursor)
    cursor.expect_kind("newline")
    return statement


def read_statement_line(cursor):
    """Read a statement up to the end of its line."""
    line = cursor.line_here()
    if cursor.sees("pass") or cursor.sees("break") or cursor.sees("continue"):
        return (cursor.take(), line)
    if cursor.skips("return"):
        return ("return", line, read_rest(cursor))
    if cursor.skips("raise"):
        return read_raise(cursor, line)
    if cursor.skips("del"):
        return ("delete", line, read_deleted(cursor))
    if cursor.sees("global") or cursor.sees("nonlocal"):
        return (cursor.take(), line, read_declared(cursor))
    if cursor.sees("yield"):
        return ("expr", line, read_yield(cursor))
    return read_assignment(cursor, line)


def read_rest(cursor):
    """Read the expressions that the line goes on with; None at its end."""
    if cursor.sees_kind("newline"):
        return None
    return read_exprs(cursor)


def read_raise(cursor, line):
    """Read what follows the word "raise"."""
    a = None
    cause = None
    if not cursor.sees_kind("newline"):
        a = read_expr(cursor)
        if cursor.skips("from"):
            cause = read_expr(cursor)
    return ("raise", line, a, cause)


def read_deleted(cursor):
    """Read the target of "del"; another expression is a fault behind it."""
    target = read_expr(cursor)
    if target[0] not in PLACES:
        cursor.refuse()
    return target


def read_declared(cursor):
    """Read the names that are declared."""
    names = [cursor.expect_kind("name")]
    while cursor.skips(","):
        names.append(cursor.expect_kind("name"))
    return tuple(names)


def read_yield(cursor):
    """Read a yield with the expressions behind it."""
    cursor.expect("yield")
    return ("yield", read_rest(cursor))


def read_assignment(cursor, line):
    """Read expressions, and what is assigned to them if they are a target."""
    left = read_exprs(cursor)
    if cursor.sees("="):
        if not is_target(left):
            cursor.refuse()
        cursor.take()
        return ("assign", line, left, read_assigned(cursor))
    for sign in AUGMENTING:
        if cursor.sees(sign):
            if left[0] not in PLACES:
                cursor.refuse()
            cursor.take()
            return ("augment", line, left, AUGMENTING[sign], read_exprs(cursor))
    return ("expr", line, left)


def read_assigned(cursor):
    """Read the right side of an assignment."""
    if cursor.sees("yield"):
        return read_yield(cursor)
    return read_exprs(cursor)


def is_target(tree):
    """Tell whether an expression may stand before the sign of an assignment."""
    if tree[0] != "tuple":
        return tree[0] in PLACES
    return len(tree[1]) > 0 and all([item[0] in PLACES for item in tree[1]])
