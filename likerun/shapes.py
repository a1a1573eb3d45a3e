"""What the forms of trees hold, for all that goes over trees."""


def parts_of(tree):
    """Return the expressions directly within an expression that makes no unit, in the order of its tuple."""
    kind = tree[0]
    if kind in ("tuple", "list", "and", "or"):
        return list(tree[1])
    if kind == "dict":
        return [part for pair in tree[1] for part in pair]
    if kind == "compare":
        return [tree[1]] + [part for _, part in tree[2]]
    if kind == "call":
        return [tree[1]] + list(tree[2]) + [part for _, part in tree[3]]
    if kind in ("choose", "item", "slice"):
        return present(tree[1:])
    if kind in ("unary", "binary"):
        return list(tree[2:])
    if kind in ("attribute", "yield"):
        return present(tree[1:2])
    return []


def present(parts):
    """Return the parts that are not missing."""
    return [part for part in parts if part is not None]


def if_parts(statement):
    """Return the (line, test, body) of an if statement and of all that are its elif parts, and the last else part."""
    parts = [statement[1:4]]
    other = statement[4]
    while len(other) == 1 and other[0][0] == "if":
        parts.append(other[0][1:4])
        other = other[0][4]
    return parts, other


def joined_if(parts, other):
    """Return the if statement that has these parts, as if_parts returns them."""
    for line, test, body in reversed(parts):
        other = (("if", line, test, body, other),)
    return other[0]


def target_names(target):
    """Return the names that a loop or a comprehension binds."""
    if target[0] == "name":
        return [target[1]]
    return [item[1] for item in target[1]]
