"""Source texts as trees: the statements with blocks, and the whole program."""

from likerun.cursor import Cursor
from likerun.expressions import read_expr, read_exprs, read_names, read_params
from likerun.signs import tokens
from likerun.simple import read_simple

ELIF_LIMIT = 20


def read_tree(text):
    """Return the tree of a source text."""
    # All tokens are made before the grammar is asked: their faults go first.
    cursor = Cursor(tokens(text))
    statements = []
    while not cursor.sees_kind("end"):
        statements.append(read_statement(cursor))
    return tuple(statements)


def read_statement(cursor):
    """Read one statement with its blocks."""
    for word in COMPOUND:
        if cursor.sees(word):
            reader = COMPOUND[word]
            return reader(cursor)
    return read_simple(cursor)


def read_block(cursor):
    """Read a colon and the indented statements behind it."""
    begin_block(cursor)
    statements = [read_statement(cursor)]
    while not cursor.sees_kind("dedent"):
        statements.append(read_statement(cursor))
    cursor.take()
    return tuple(statements)


def begin_block(cursor):
    """Read a colon, the end of its line and the indentation behind it."""
    cursor.expect(":")
    cursor.expect_kind("newline")
    cursor.expect_kind("indent")


def read_else(cursor):
    """Read an else part; it is empty if it is missing."""
    if cursor.skips("else"):
        return read_block(cursor)
    return ()


def read_as(cursor):
    """Read the name behind "as"; None if it is missing."""
    if cursor.skips("as"):
        return cursor.expect_kind("name")
    return None


def read_if(cursor):
    """Read an if statement with its elif parts, each of which is the else part of the one before."""
    parts = [read_test(cursor)]
    while cursor.sees("elif"):
        if len(parts) > ELIF_LIMIT:
            cursor.refuse_depth()
        parts.append(read_test(cursor))
    other = read_else(cursor)
    for line, test, body in reversed(parts):
        other = (("if", line, test, body, other),)
    return other[0]


def read_test(cursor):
    """Read a keyword, a test and a block: the line of the keyword, the test and the block."""
    line = cursor.line_here()
    cursor.take()
    test = read_expr(cursor)
    return line, test, read_block(cursor)


def read_while(cursor):
    """Read a while statement."""
    line, test, body = read_test(cursor)
    return ("while", line, test, body, read_else(cursor))


def read_for(cursor):
    """Read a for statement."""
    line = cursor.line_here()
    cursor.expect("for")
    target = read_names(cursor)
    cursor.expect("in")
    iterable = read_exprs(cursor)
    body = read_block(cursor)
    return ("for", line, target, iterable, body, read_else(cursor))


def read_def(cursor):
    """Read a function."""
    line = cursor.line_here()
    cursor.expect("def")
    name = cursor.expect_kind("name")
    begin_bracket(cursor)
    params = read_params(cursor, ")")
    cursor.end_bracket(")")
    return ("def", line, name, params, read_block(cursor))


def begin_bracket(cursor):
    """Read the round bracket behind the name of a function or a class."""
    if not cursor.sees("("):
        cursor.refuse()
    cursor.begin_part()


def read_class(cursor):
    """Read a class with its items."""
    line = cursor.line_here()
    cursor.expect("class")
    name = cursor.expect_kind("name")
    base = None
    if cursor.sees("("):
        begin_bracket(cursor)
        base = ("name", cursor.expect_kind("name"))
        cursor.end_bracket(")")
    begin_block(cursor)
    items = [read_item(cursor)]
    while not cursor.sees_kind("dedent"):
        items.append(read_item(cursor))
    cursor.take()
    return ("class", line, name, base, tuple(items))


def read_item(cursor):
    """Read a pass, an attribute or a function in a class."""
    if cursor.sees("def"):
        return read_def(cursor)
    line = cursor.line_here()
    if cursor.skips("pass"):
        item = ("pass", line)
    else:
        name = cursor.expect_kind("name")
        cursor.expect("=")
        item = ("assign", line, ("name", name), read_exprs(cursor))
    cursor.expect_kind("newline")
    return item


def read_with(cursor):
    """Read a with statement."""
    line = cursor.line_here()
    cursor.expect("with")
    a = read_expr(cursor)
    name = read_as(cursor)
    return ("with", line, a, name, read_block(cursor))


def read_try(cursor):
    """Read a try statement, which has a clause or a finally part."""
    line = cursor.line_here()
    cursor.expect("try")
    body = read_block(cursor)
    clauses = read_clauses(cursor)
    other = ()
    if clauses:
        other = read_else(cursor)
    final = ()
    if cursor.skips("finally"):
        final = read_block(cursor)
    elif not clauses:
        cursor.refuse()
    return ("try", line, body, clauses, other, final)


def read_clauses(cursor):
    """Read the clauses of a try statement; one without a class is the last."""
    clauses = []
    while cursor.sees("except"):
        clause = read_clause(cursor)
        clauses.append(clause)
        if clause[1] is None:
            break
    return tuple(clauses)


def read_clause(cursor):
    """Read one clause of a try statement."""
    line = cursor.line_here()
    cursor.expect("except")
    a = None
    name = None
    if not cursor.sees(":"):
        a = read_expr(cursor)
        name = read_as(cursor)
    return (line, a, name, read_block(cursor))


COMPOUND = {
    "if": read_if,
    "while": read_while,
    "for": read_for,
    "def": read_def,
    "class": read_class,
    "with": read_with,
    "try": read_try,
}
