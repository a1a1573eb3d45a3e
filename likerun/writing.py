"""Expressions written as source texts, with brackets only where the grammar needs them."""

from likerun.letters import quoted

# How tightly the parts of an expression hold together: an operand that holds less tightly needs brackets.
OR = 1
AND = 2
NOT = 3
SUM = 5
NEGATION = 7
POSTFIX = 8
ATOM = 9

LEVELS = {
    "lambda": 0, "choose": 0, "or": 1, "and": 2, "compare": 4, "+": 5, "-": 5, "*": 6, "//": 6, "mod": 6,
    "attribute": 8, "item": 8, "slice": 8, "call": 8,
}


def level_of(tree):
    """Return how tightly an expression holds together."""
    kind = tree[0]
    if kind == "unary":
        return NEGATION if tree[1] == "-" else NOT
    if kind == "binary":
        return LEVELS[tree[1]]
    return LEVELS.get(kind, ATOM)


def operand(tree, level):
    """Write an expression where the grammar asks for one that holds together so tightly."""
    text = write_expr(tree)
    if level_of(tree) < level:
        return "(" + text + ")"
    return text


def write_expr(tree):
    """Write an expression; a tuple has its brackets."""
    writer = WRITERS[tree[0]]
    return writer(tree)


def write_bare(tree):
    """Write an expression where a tuple of at least one item has no brackets."""
    if tree[0] == "tuple" and tree[1]:
        return write_items(tree[1]) + lone_comma(tree[1])
    return write_expr(tree)


def write_items(items):
    """Write expressions with commas between them."""
    return ", ".join([write_expr(item) for item in items])


def lone_comma(items):
    """Return the comma that tells a tuple of one item from the item."""
    return "," if len(items) == 1 else ""


def write_none(tree):
    """Write the constant of this form."""
    return "None"


def write_plain(tree):
    """Write a truth, a number or a name."""
    return str(tree[1])


def write_text(tree):
    """Write a text in double quotes."""
    return quoted(tree[1])


def write_tuple(tree):
    """Write a tuple in round brackets."""
    return "(" + write_items(tree[1]) + lone_comma(tree[1]) + ")"


def write_list(tree):
    """Write a list."""
    return "[" + write_items(tree[1]) + "]"


def write_dict(tree):
    """Write a dict."""
    return "{" + ", ".join([write_expr(key) + ": " + write_expr(a) for key, a in tree[1]]) + "}"


def write_comp(tree):
    """Write a comprehension."""
    element, target, iterable, condition = tree[1:]
    text = write_expr(element) + " for " + write_bare(target) + " in " + operand(iterable, OR)
    if condition is not None:
        text += " if " + operand(condition, OR)
    return "[" + text + "]"


def write_unary(tree):
    """Write an operand with its sign or keyword before it."""
    if tree[1] == "-":
        return "-" + operand(tree[2], NEGATION)
    return "not " + operand(tree[2], NOT)


def write_binary(tree):
    """Write two operands, which are grouped from the left."""
    op = tree[1]
    level = LEVELS[op]
    return operand(tree[2], level) + " " + op + " " + operand(tree[3], level + 1)


def write_compare(tree):
    """Write a chain of comparisons."""
    links = [" " + op + " " + operand(part, SUM) for op, part in tree[2]]
    return operand(tree[1], SUM) + "".join(links)


def write_and(tree):
    """Write the operands of "and"."""
    return " and ".join([operand(item, NOT) for item in tree[1]])


def write_or(tree):
    """Write the operands of "or"."""
    return " or ".join([operand(item, AND) for item in tree[1]])


def write_choose(tree):
    """Write an expression that is chosen by a test."""
    return operand(tree[2], OR) + " if " + operand(tree[1], OR) + " else " + write_expr(tree[3])


def write_lambda(tree):
    """Write a lambda."""
    params = write_params(tree[1])
    space = " " if params else ""
    return "lambda" + space + params + ": " + write_expr(tree[2])


def write_params(params):
    """Write parameters with their defaults."""
    return ", ".join([write_param(name, default) for name, default in params])


def write_param(name, default):
    """Write a parameter, or a named argument, with what follows its sign if there is one."""
    if default is None:
        return name
    return name + "=" + write_expr(default)


def write_call(tree):
    """Write a call."""
    given = [write_expr(item) for item in tree[2]]
    named = [write_param(name, item) for name, item in tree[3]]
    return operand(tree[1], POSTFIX) + "(" + ", ".join(given + named) + ")"


def write_attribute(tree):
    """Write an attribute."""
    return operand(tree[1], POSTFIX) + "." + tree[2]


def write_item(tree):
    """Write an item."""
    return operand(tree[1], POSTFIX) + "[" + write_bare(tree[2]) + "]"


def write_slice(tree):
    """Write a slice; one colon is enough if it has no step."""
    bounds = [write_bound(bound) for bound in tree[2:]]
    if tree[4] is None:
        bounds = bounds[:2]
    return operand(tree[1], POSTFIX) + "[" + ":".join(bounds) + "]"


def write_bound(bound):
    """Write a part of a slice; nothing if it is missing."""
    if bound is None:
        return ""
    return write_expr(bound)


def write_yield(tree):
    """Write a yield, which stands on the right side of a statement only."""
    if tree[1] is None:
        return "yield"
    return "yield " + write_bare(tree[1])


WRITERS = {
    "none": write_none,
    "truth": write_plain,
    "number": write_plain,
    "name": write_plain,
    "text": write_text,
    "tuple": write_tuple,
    "list": write_list,
    "dict": write_dict,
    "comp": write_comp,
    "unary": write_unary,
    "binary": write_binary,
    "compare": write_compare,
    "and": write_and,
    "or": write_or,
    "choose": write_choose,
    "lambda": write_lambda,
    "call": write_call,
    "attribute": write_attribute,
    "item": write_item,
    "slice": write_slice,
    "yield": write_yield,
}
