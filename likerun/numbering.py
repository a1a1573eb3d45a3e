"""The bodies of units in which each function, lambda and comprehension is told by the number of its unit.

The trees are those of points 14 and 15, but for these: ("lambda", params, number), ("comp", iterable, number),
("def", line, name, params, number); and the body of a comprehension's unit is ("comp", element, target, condition).
"""

from likerun.shapes import if_parts, joined_if, parts_of


class Numbers:
    """Gives the units directly inside a unit their numbers, in the order in which they stand in it."""

    def __init__(self, numbers):
        self.numbers = numbers
        self.given = 0

    def give_number(self):
        """Return the number of the next unit."""
        self.given += 1
        return self.numbers[self.given - 1]


def numbered_bodies(units):
    """Return the numbered body of each of the units."""
    inner = [[] for _ in units]
    for number in range(1, len(units)):
        inner[units[number].outer].append(number)
    return [numbered_body(unit, Numbers(numbers)) for unit, numbers in zip(units, inner)]


def is_comp(unit):
    """Tell whether a unit is that of a comprehension."""
    return unit.parameters == (".items",)


def is_lambda(unit):
    """Tell whether a unit is that of a lambda: no function has a keyword as its name."""
    return unit.name == "lambda"


def numbered_body(unit, numbers):
    """Return the numbered body of a unit."""
    if is_lambda(unit):
        return numbered(unit.body, numbers)
    if is_comp(unit):
        _, element, target, _, condition = unit.body
        condition = numbered(condition, numbers)
        return ("comp", numbered(element, numbers), target, condition)
    return numbered_block(unit.body, numbers)


def numbered(tree, numbers):
    """Number an expression, which may be missing; parts of a tuple are numbered in its order."""
    if tree is None:
        return None
    if tree[0] == "lambda":
        params = numbered_params(tree[1], numbers)
        return ("lambda", params, numbers.give_number())
    if tree[0] == "comp":
        iterable = numbered(tree[3], numbers)
        return ("comp", iterable, numbers.give_number())
    parts = parts_of(tree)
    if not parts:
        return tree
    return with_parts(tree, [numbered(part, numbers) for part in parts])


def with_parts(tree, parts):
    """Return an expression with other parts in the place of those that parts_of returns."""
    kind = tree[0]
    if kind in ("tuple", "list", "and", "or"):
        return (kind, tuple(parts))
    if kind == "dict":
        return ("dict", tuple(zip(parts[::2], parts[1::2])))
    if kind == "compare":
        ops = [op for op, _ in tree[2]]
        return ("compare", parts[0], tuple(zip(ops, parts[1:])))
    if kind == "call":
        behind = 1 + len(tree[2])
        names = [name for name, _ in tree[3]]
        return ("call", parts[0], tuple(parts[1:behind]), tuple(zip(names, parts[behind:])))
    if kind in ("unary", "binary"):
        return tree[:2] + tuple(parts)
    if kind == "attribute":
        return ("attribute", parts[0], tree[2])
    return with_present(tree, parts)


def with_present(tree, parts):
    """Return an expression, some parts of which may be missing, with others in the place of those that are not."""
    fields = [tree[0]]
    used = 0
    for field in tree[1:]:
        fields.append(None if field is None else parts[used])
        used += 0 if field is None else 1
    return tuple(fields)


def numbered_params(params, numbers):
    """Number the defaults of parameters."""
    return tuple([(name, numbered(default, numbers)) for name, default in params])


def numbered_block(statements, numbers):
    """Number the statements of a block."""
    return tuple([numbered_statement(statement, numbers) for statement in statements])


def numbered_statement(statement, numbers):
    """Number a statement."""
    kind, line = statement[:2]
    if kind in ("expr", "return", "raise", "delete"):
        return (kind, line) + tuple([numbered(part, numbers) for part in statement[2:]])
    if kind == "assign":
        target = numbered(statement[2], numbers)
        return (kind, line, target, numbered(statement[3], numbers))
    if kind == "augment":
        target = numbered(statement[2], numbers)
        return (kind, line, target, statement[3], numbered(statement[4], numbers))
    if kind == "def":
        params = numbered_params(statement[3], numbers)
        return (kind, line, statement[2], params, numbers.give_number())
    if kind == "class":
        return statement[:4] + (numbered_block(statement[4], numbers),)
    if kind in COMPOUND:
        action = COMPOUND[kind]
        return action(statement, numbers)
    return statement


def numbered_if(statement, numbers):
    """Number an if statement with its elif parts."""
    parts, other = if_parts(statement)
    found = []
    for line, test, body in parts:
        test = numbered(test, numbers)
        found.append((line, test, numbered_block(body, numbers)))
    return joined_if(found, numbered_block(other, numbers))


def numbered_while(statement, numbers):
    """Number a while statement."""
    kind, line, test, body, other = statement
    test = numbered(test, numbers)
    body = numbered_block(body, numbers)
    return (kind, line, test, body, numbered_block(other, numbers))


def numbered_for(statement, numbers):
    """Number a for statement."""
    kind, line, target, iterable, body, other = statement
    iterable = numbered(iterable, numbers)
    body = numbered_block(body, numbers)
    return (kind, line, target, iterable, body, numbered_block(other, numbers))


def numbered_with(statement, numbers):
    """Number a with statement."""
    kind, line, a, name, body = statement
    a = numbered(a, numbers)
    return (kind, line, a, name, numbered_block(body, numbers))


def numbered_try(statement, numbers):
    """Number a try statement."""
    kind, line, body, clauses, other, final = statement
    body = numbered_block(body, numbers)
    found = []
    for place, a, name, block in clauses:
        a = numbered(a, numbers)
        found.append((place, a, name, numbered_block(block, numbers)))
    other = numbered_block(other, numbers)
    return (kind, line, body, tuple(found), other, numbered_block(final, numbers))


COMPOUND = {
    "if": numbered_if,
    "while": numbered_while,
    "for": numbered_for,
    "with": numbered_with,
    "try": numbered_try,
}
