"""The compiler of expressions: each puts the instructions that put its value on the stack."""

from likerun.values import NONE


def put_expr(out, tree):
    """Put an expression, which may be missing: then its value is none."""
    if tree is None:
        out.emit(("push", NONE))
    elif tree[0] in PHRASES:
        action = PHRASES[tree[0]]
        action(out, tree)
    else:
        # A constant has the form of its value.
        out.emit(("push", tree))


def put_exprs(out, trees):
    """Put several expressions."""
    for tree in trees:
        put_expr(out, tree)


def put_name(out, tree):
    """Put a name."""
    out.put_name("load", tree[1])


def put_sequence(out, tree):
    """Put a tuple or a list."""
    put_exprs(out, tree[1])
    out.emit(("make_" + tree[0], len(tree[1])))


def put_dict(out, tree):
    """Put a dict."""
    for pair in tree[1]:
        put_exprs(out, pair)
    out.emit(("make_dict", len(tree[1])))


def put_unary(out, tree):
    """Put a sign and its operand."""
    put_expr(out, tree[2])
    out.emit(tree[:2])


def put_binary(out, tree):
    """Put a sign and its operands."""
    put_exprs(out, tree[2:])
    out.emit(tree[:2])


def put_compare(out, tree):
    """Put a chain of comparisons; an operand between two of them is kept below the first result."""
    _, first, links = tree
    put_expr(out, first)
    short = out.new_label()
    for op, part in links[:-1]:
        put_expr(out, part)
        out.emit(("copy",))
        out.emit(("lift",))
        out.emit(("compare", op))
        out.emit(("keep_false", short))
    op, part = links[-1]
    put_expr(out, part)
    out.emit(("compare", op))
    if len(links) > 1:
        behind = out.new_label()
        out.emit(("jump", behind))
        out.place(short)
        out.emit(("swap",))
        out.emit(("pop",))
        out.place(behind)


def put_choice(out, tree):
    """Put operands of "and" or "or"."""
    word = "keep_false" if tree[0] == "and" else "keep_true"
    behind = out.new_label()
    for item in tree[1][:-1]:
        put_expr(out, item)
        out.emit((word, behind))
    put_expr(out, tree[1][-1])
    out.place(behind)


def put_choose(out, tree):
    """Put a test and what it chooses from."""
    _, test, then, other = tree
    otherwise = out.new_label()
    behind = out.new_label()
    put_expr(out, test)
    out.emit(("jump_false", otherwise))
    put_expr(out, then)
    out.emit(("jump", behind))
    out.place(otherwise)
    put_expr(out, other)
    out.place(behind)


def put_lambda(out, tree):
    """Put a lambda."""
    put_function_of(out, tree[1], tree[2])


def put_function_of(out, params, number):
    """Put the function of a unit with the defaults of its parameters."""
    put_exprs(out, [default for _, default in params if default is not None])
    out.put_function(number)


def put_comp(out, tree):
    """Put the call of a comprehension's unit with its iterable."""
    put_expr(out, tree[1])
    out.put_function(tree[2])
    out.emit(("swap",))
    out.emit(("call", 1, ()))


def put_call(out, tree):
    """Put a call."""
    _, function, given, named = tree
    put_expr(out, function)
    put_exprs(out, given)
    put_exprs(out, [part for _, part in named])
    out.emit(("call", len(given), tuple([name for name, _ in named])))


def put_attribute(out, tree):
    """Put an attribute."""
    put_expr(out, tree[1])
    out.emit(("load_field", tree[2]))


def put_item(out, tree):
    """Put an item."""
    put_exprs(out, tree[1:])
    out.emit(("load_item",))


def put_slice(out, tree):
    """Put a slice."""
    put_exprs(out, tree[1:])
    out.emit(("load_slice",))


def put_yield(out, tree):
    """Put a yield."""
    put_expr(out, tree[1])
    out.emit(("yield",))


PHRASES = {
    "name": put_name,
    "tuple": put_sequence,
    "list": put_sequence,
    "dict": put_dict,
    "unary": put_unary,
    "binary": put_binary,
    "compare": put_compare,
    "and": put_choice,
    "or": put_choice,
    "choose": put_choose,
    "lambda": put_lambda,
    "comp": put_comp,
    "call": put_call,
    "attribute": put_attribute,
    "item": put_item,
    "slice": put_slice,
    "yield": put_yield,
}
