"""Trees written as source texts, and trees without their lines."""

from likerun.shapes import if_parts, joined_if
from likerun.writing import write_bare, write_expr, write_params

MARGIN = "    "


def print_tree(tree):
    """Write a tree as a source text."""
    return "".join([row + "\n" for row in block_rows(tree, "")])


def block_rows(statements, margin):
    """Return the rows of statements, each behind this margin."""
    rows = []
    for statement in statements:
        if statement[0] in COMPOUND:
            rows.extend(compound_rows(statement, margin))
        else:
            rows.append(margin + write_simple(statement))
    return rows


def compound_rows(statement, margin):
    """Return the rows of a statement with blocks."""
    writer = COMPOUND[statement[0]]
    rows = []
    for head, block in writer(statement):
        rows.append(margin + head + ":")
        rows.extend(block_rows(block, margin + MARGIN))
    return rows


def write_simple(statement):
    """Write a statement without blocks."""
    kind = statement[0]
    if kind == "expr":
        return write_bare(statement[2])
    if kind == "assign":
        return write_bare(statement[2]) + " = " + write_bare(statement[3])
    if kind == "augment":
        return write_expr(statement[2]) + " " + statement[3] + "= " + write_bare(statement[4])
    if kind == "delete":
        return "del " + write_expr(statement[2])
    if kind == "return":
        return write_return(statement)
    if kind == "raise":
        return write_raise(statement)
    if kind in ("global", "nonlocal"):
        return kind + " " + ", ".join(list(statement[2]))
    return kind


def write_return(statement):
    """Write a return."""
    if statement[2] is None:
        return "return"
    return "return " + write_bare(statement[2])


def write_raise(statement):
    """Write a raise, perhaps with a cause."""
    text = "raise"
    if statement[2] is not None:
        text += " " + write_expr(statement[2])
    if statement[3] is not None:
        text += " from " + write_expr(statement[3])
    return text


def write_as(name):
    """Write what binds a name behind an expression; nothing if there is no name."""
    if name is None:
        return ""
    return " as " + name


def else_blocks(other):
    """Return the head and the block of an else part if there is one."""
    if other:
        return [("else", other)]
    return []


def if_blocks(statement):
    """Return the heads and the blocks of an if statement with its elif parts."""
    parts, other = if_parts(statement)
    blocks = [("elif " + write_expr(test), body) for _, test, body in parts]
    blocks[0] = ("if " + write_expr(statement[2]), statement[3])
    return blocks + else_blocks(other)


def while_blocks(statement):
    """Return the heads and the blocks of a while statement."""
    return [("while " + write_expr(statement[2]), statement[3])] + else_blocks(statement[4])


def for_blocks(statement):
    """Return the heads and the blocks of a for statement."""
    head = "for " + write_bare(statement[2]) + " in " + write_bare(statement[3])
    return [(head, statement[4])] + else_blocks(statement[5])


def def_blocks(statement):
    """Return the head and the block of a function."""
    return [("def " + statement[2] + "(" + write_params(statement[3]) + ")", statement[4])]


def class_blocks(statement):
    """Return the head and the items of a class."""
    head = "class " + statement[2]
    if statement[3] is not None:
        head += "(" + write_expr(statement[3]) + ")"
    return [(head, statement[4])]


def with_blocks(statement):
    """Return the head and the block of a with statement."""
    return [("with " + write_expr(statement[2]) + write_as(statement[3]), statement[4])]


def try_blocks(statement):
    """Return the heads and the blocks of a try statement."""
    body, clauses, other, final = statement[2:]
    blocks = [("try", body)]
    for _, a, name, block in clauses:
        head = "except"
        if a is not None:
            head += " " + write_expr(a) + write_as(name)
        blocks.append((head, block))
    blocks.extend(else_blocks(other))
    if final:
        blocks.append(("finally", final))
    return blocks


COMPOUND = {
    "if": if_blocks,
    "while": while_blocks,
    "for": for_blocks,
    "def": def_blocks,
    "class": class_blocks,
    "with": with_blocks,
    "try": try_blocks,
}
# Where the blocks of a statement stand in its tuple.
BLOCKS = {"while": (3, 4), "for": (4, 5), "def": (4,), "class": (4,), "with": (4,), "try": (2, 4, 5)}


def without_lines(tree):
    """Return the tree with 0 in the place of each line."""
    return tuple([bare_statement(statement) for statement in tree])


def bare_statement(statement):
    """Return a statement without its lines."""
    kind = statement[0]
    if kind == "if":
        # An else part may hold an if statement in its turn, more often than a function should call itself.
        parts, other = if_parts(statement)
        bare = [(0, test, without_lines(body)) for _, test, body in parts]
        return joined_if(bare, without_lines(other))
    fields = list(statement)
    fields[1] = 0
    for at in BLOCKS.get(kind, ()):
        fields[at] = without_lines(fields[at])
    if kind == "try":
        fields[3] = tuple([(0, a, name, without_lines(body)) for _, a, name, body in fields[3]])
    return tuple(fields)
