"""The expressions of the grammar, read from tokens into their trees."""

COMPARING = ("==", "!=", "<=", ">=", "<", ">", "in")


def read_exprs(cursor):
    """Read expressions with commas: a tuple if there is a comma."""
    return more_exprs(cursor, read_expr(cursor))


def more_exprs(cursor, first):
    """Read what follows the first one of the expressions."""
    if not cursor.sees(","):
        return first
    return ("tuple", more_items(cursor, first))


def more_items(cursor, first):
    """Read commas and expressions behind the first one, and return all of them."""
    items = [first]
    while cursor.skips(","):
        if not cursor.sees_expression():
            break
        items.append(read_expr(cursor))
    return tuple(items)


def read_names(cursor):
    """Read the names that a loop binds: a tuple if there is a comma."""
    first = ("name", cursor.expect_kind("name"))
    if not cursor.sees(","):
        return first
    items = [first]
    while cursor.skips(","):
        if not cursor.sees_kind("name"):
            break
        items.append(("name", cursor.take()))
    return ("tuple", tuple(items))


def read_params(cursor, closing):
    """Read parameters up to the sign that closes them."""
    params = []
    while not cursor.sees(closing):
        name = cursor.expect_kind("name")
        default = None
        if cursor.skips("="):
            default = read_expr(cursor)
        elif params and params[-1][1] is not None:
            cursor.refuse()
        params.append((name, default))
        if not cursor.skips(","):
            break
    return tuple(params)


def read_expr(cursor):
    """Read one expression."""
    if cursor.sees("lambda"):
        return read_lambda(cursor)
    return read_choice(cursor)


def read_lambda(cursor):
    """Read a lambda, which counts to the end of its body."""
    cursor.begin_part()
    params = read_params(cursor, ":")
    cursor.expect(":")
    body = read_expr(cursor)
    cursor.end_part()
    return ("lambda", params, body)


def read_choice(cursor):
    """Read an expression that may be chosen by a test."""
    then = read_or(cursor)
    if not cursor.skips("if"):
        return then
    test = read_or(cursor)
    if not cursor.sees("else"):
        cursor.refuse()
    cursor.begin_part()
    other = read_expr(cursor)
    cursor.end_part()
    return ("choose", test, then, other)


def read_or(cursor):
    """Read operands with "or" between them."""
    items = [read_and(cursor)]
    while cursor.skips("or"):
        items.append(read_and(cursor))
    return joined("or", items)


def read_and(cursor):
    """Read operands with "and" between them."""
    items = [read_not(cursor)]
    while cursor.skips("and"):
        items.append(read_not(cursor))
    return joined("and", items)


def joined(word, items):
    """Return the tree of the operands, which is the operand itself if there is one only."""
    if len(items) == 1:
        return items[0]
    return (word, tuple(items))


def read_not(cursor):
    """Read a comparison with any number of "not" before it."""
    if not cursor.sees("not"):
        return read_comparison(cursor)
    cursor.begin_part()
    a = read_not(cursor)
    cursor.end_part()
    return ("unary", "not", a)


def read_comparison(cursor):
    """Read a chain of comparisons."""
    first = read_sum(cursor)
    links = []
    op = read_comparing(cursor)
    while op is not None:
        links.append((op, read_sum(cursor)))
        op = read_comparing(cursor)
    if not links:
        return first
    return ("compare", first, tuple(links))


def read_comparing(cursor):
    """Read a comparing sign; None if there is none."""
    for word in COMPARING:
        if cursor.skips(word):
            return word
    if cursor.skips("not"):
        cursor.expect("in")
        return "not in"
    if cursor.skips("is"):
        if cursor.skips("not"):
            return "is not"
        return "is"
    return None


def read_sum(cursor):
    """Read products, added and subtracted from the left."""
    a = read_product(cursor)
    while cursor.sees("+") or cursor.sees("-"):
        op = cursor.take()
        a = ("binary", op, a, read_product(cursor))
    return a


def read_product(cursor):
    """Read negations, multiplied and divided from the left."""
    a = read_negation(cursor)
    while cursor.sees("*") or cursor.sees("//") or cursor.sees("mod"):
        op = cursor.take()
        a = ("binary", op, a, read_negation(cursor))
    return a


def read_negation(cursor):
    """Read an operand with any number of minus signs before it."""
    if not cursor.sees("-"):
        return read_postfix(cursor)
    cursor.begin_part()
    a = read_negation(cursor)
    cursor.end_part()
    return ("unary", "-", a)


def read_postfix(cursor):
    """Read an atom with the attributes, indexes and calls behind it."""
    a = read_atom(cursor)
    while True:
        if cursor.skips("."):
            a = ("attribute", a, cursor.expect_kind("name"))
        elif cursor.sees("["):
            a = read_index(cursor, a)
        elif cursor.sees("("):
            a = read_call(cursor, a)
        else:
            return a


def read_index(cursor, a):
    """Read the item or slice of an expression."""
    cursor.begin_part()
    low = None
    if not cursor.sees(":"):
        low = read_expr(cursor)
        if not cursor.sees(":"):
            index = more_exprs(cursor, low)
            cursor.end_bracket("]")
            return ("item", a, index)
    cursor.expect(":")
    high = read_bound(cursor)
    step = None
    if cursor.skips(":"):
        step = read_bound(cursor)
    cursor.end_bracket("]")
    return ("slice", a, low, high, step)


def read_bound(cursor):
    """Read a part of a slice behind a colon; None if it is missing."""
    if cursor.sees(":") or cursor.sees("]"):
        return None
    return read_expr(cursor)


def read_call(cursor, function):
    """Read the arguments of a call."""
    cursor.begin_part()
    given = []
    named = []
    while not cursor.sees(")"):
        name, a = read_argument(cursor)
        if name is not None:
            named.append((name, a))
        elif named:
            cursor.refuse()
        else:
            given.append(a)
        if not cursor.skips(","):
            break
    cursor.end_bracket(")")
    return ("call", function, tuple(given), tuple(named))


def read_argument(cursor):
    """Read an argument: its name or None, and its expression."""
    name = None
    if cursor.sees_kind("name") and cursor.sees_behind("="):
        name = cursor.take()
        cursor.expect("=")
    return name, read_expr(cursor)


def read_atom(cursor):
    """Read an expression that has no operand before or behind it."""
    for kind in ("name", "number", "text"):
        if cursor.sees_kind(kind):
            return (kind, cursor.take())
    if cursor.skips("None"):
        return ("none",)
    if cursor.sees("True") or cursor.sees("False"):
        return ("truth", cursor.take() == "True")
    if cursor.sees("("):
        return read_round(cursor)
    if cursor.sees("["):
        return read_square(cursor)
    if cursor.sees("{"):
        return read_curly(cursor)
    return cursor.refuse()


def read_round(cursor):
    """Read an expression in round brackets, or a tuple."""
    cursor.begin_part()
    a = ("tuple", ())
    if not cursor.sees(")"):
        a = read_exprs(cursor)
    cursor.end_bracket(")")
    return a


def read_square(cursor):
    """Read a list or a comprehension."""
    cursor.begin_part()
    a = ("list", ())
    if not cursor.sees("]"):
        first = read_expr(cursor)
        if cursor.sees("for"):
            a = read_comp(cursor, first)
        else:
            a = ("list", more_items(cursor, first))
    cursor.end_bracket("]")
    return a


def read_comp(cursor, element):
    """Read what follows the element of a comprehension."""
    cursor.expect("for")
    target = read_names(cursor)
    cursor.expect("in")
    iterable = read_or(cursor)
    condition = None
    if cursor.skips("if"):
        condition = read_or(cursor)
    return ("comp", element, target, iterable, condition)


def read_curly(cursor):
    """Read a dict."""
    cursor.begin_part()
    pairs = []
    while not cursor.sees("}"):
        key = read_expr(cursor)
        cursor.expect(":")
        pairs.append((key, read_expr(cursor)))
        if not cursor.skips(","):
            break
    cursor.end_bracket("}")
    return ("dict", tuple(pairs))
