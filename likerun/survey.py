"""A walk over a tree that meets its units, and the names and the faults in them."""

from likerun.shapes import if_parts, parts_of, target_names


class Draft:
    """What the walk has met of one unit."""

    def __init__(self, name, line, outer, params, body):
        self.name = name
        self.line = line
        self.outer = outer
        self.parameters = tuple([param for param, _ in params])
        self.defaults = len([default for _, default in params if default is not None])
        self.body = body
        self.yields = False
        # The names that are bound, that are declared (with the word), and that occur, in the order of their meeting.
        self.bound = {}
        self.declared = {}
        self.occurring = {}
        self.slots = ()

    def meet(self, name):
        """Note that a name occurs."""
        self.occurring[name] = True

    def bind_name(self, name):
        """Note that a name is bound."""
        self.bound[name] = True
        self.meet(name)


class Survey:
    """The units that the walk has met, the lines of faults, and the (unit, name, line) of nonlocal declarations."""

    def __init__(self):
        self.drafts = []
        self.fault_lines = []
        self.nonlocals = []

    def begin_unit(self, draft):
        """Give a unit its number, and bind its parameters."""
        self.drafts.append(draft)
        for name in draft.parameters:
            draft.bind_name(name)
        return len(self.drafts) - 1

    def find_fault(self, line):
        """Note a fault on a line."""
        self.fault_lines.append(line)


def survey_tree(tree):
    """Return what a walk over a tree meets."""
    survey = Survey()
    unit = survey.begin_unit(Draft("main", 0, None, (), tree))
    visit_block(survey, unit, tree, False)
    for draft in survey.drafts[1:]:
        draft.slots = tuple([name for name in draft.bound if name not in draft.declared])
    return survey


def visit_block(survey, unit, statements, looped):
    """Visit statements, which may stand in a loop of their unit."""
    for statement in statements:
        kind = statement[0]
        if kind in VISITS:
            visit = VISITS[kind]
            visit(survey, unit, statement, looped)
        elif kind in ("break", "continue") and not looped:
            survey.find_fault(statement[1])


def visit_body(survey, unit, statements):
    """Visit the body of a function, at the head of which names are declared."""
    at = 0
    while at < len(statements) and statements[at][0] in ("global", "nonlocal"):
        declare(survey, unit, statements[at])
        at += 1
    visit_block(survey, unit, statements[at:], False)


def declare(survey, unit, statement):
    """Visit a declaration at the head of a function."""
    kind, line, names = statement
    draft = survey.drafts[unit]
    for name in names:
        draft.meet(name)
        if name in draft.declared or name in draft.parameters:
            survey.find_fault(line)
        if name not in draft.declared:
            draft.declared[name] = kind
            if kind == "nonlocal":
                survey.nonlocals.append((unit, name, line))


def visit_late_declaration(survey, unit, statement, looped):
    """Visit a declaration that has no place where it stands, but still declares."""
    survey.find_fault(statement[1])
    declare(survey, unit, statement)


def visit_expr(survey, unit, tree, line):
    """Visit an expression in a statement or clause of this line."""
    kind = tree[0]
    if kind == "name":
        survey.drafts[unit].meet(tree[1])
    elif kind == "lambda":
        inner = visit_params(survey, unit, Draft("lambda", line, unit, tree[1], tree[2]), tree[1])
        visit_expr(survey, inner, tree[2], line)
    elif kind == "comp":
        visit_comp(survey, unit, tree, line)
    else:
        if kind == "yield":
            visit_yield(survey, unit, line)
        elif kind == "call" and has_twice([name for name, _ in tree[3]]):
            survey.find_fault(line)
        for part in parts_of(tree):
            visit_expr(survey, unit, part, line)


def visit_optional(survey, unit, tree, line):
    """Visit an expression that may be missing."""
    if tree is not None:
        visit_expr(survey, unit, tree, line)


def visit_yield(survey, unit, line):
    """Note a yield, which stands in the unit of a function."""
    survey.drafts[unit].yields = True
    if unit == 0:
        survey.find_fault(line)


def has_twice(names):
    """Tell whether a name stands twice among the names."""
    return len(set(names)) < len(names)


def visit_params(survey, unit, draft, params):
    """Visit the defaults of a function, and give its unit a number, which is returned."""
    for _, default in params:
        visit_optional(survey, unit, default, draft.line)
    if has_twice(draft.parameters):
        survey.find_fault(draft.line)
    return survey.begin_unit(draft)


def visit_comp(survey, unit, tree, line):
    """Visit a comprehension: its iterable belongs to the unit in which it stands."""
    _, element, target, iterable, condition = tree
    visit_expr(survey, unit, iterable, line)
    draft = Draft("comp", line, unit, ((".items", None),), tree)
    inner = survey.begin_unit(draft)
    draft.bind_name(".out")
    for name in target_names(target):
        draft.bind_name(name)
    visit_optional(survey, inner, condition, line)
    visit_expr(survey, inner, element, line)


def visit_target(survey, unit, target, line):
    """Visit a target, which binds the names in it."""
    if target[0] == "name":
        survey.drafts[unit].bind_name(target[1])
    elif target[0] == "tuple":
        for item in target[1]:
            visit_target(survey, unit, item, line)
    else:
        visit_expr(survey, unit, target, line)


def visit_name(survey, unit, name):
    """Bind a name that a statement may leave out."""
    if name is not None:
        survey.drafts[unit].bind_name(name)


def visit_plain(survey, unit, statement, looped):
    """Visit a statement of one expression, or a raise."""
    for tree in statement[2:]:
        visit_optional(survey, unit, tree, statement[1])


def visit_return(survey, unit, statement, looped):
    """Visit a return, which stands in the unit of a function."""
    if unit == 0:
        survey.find_fault(statement[1])
    visit_optional(survey, unit, statement[2], statement[1])


def visit_assign(survey, unit, statement, looped):
    """Visit an assignment, or an augmented one: its last part is the expression."""
    visit_target(survey, unit, statement[2], statement[1])
    visit_expr(survey, unit, statement[-1], statement[1])


def visit_delete(survey, unit, statement, looped):
    """Visit a del."""
    visit_target(survey, unit, statement[2], statement[1])


def visit_if(survey, unit, statement, looped):
    """Visit an if statement with its elif parts."""
    parts, other = if_parts(statement)
    for line, test, body in parts:
        visit_expr(survey, unit, test, line)
        visit_block(survey, unit, body, looped)
    visit_block(survey, unit, other, looped)


def visit_while(survey, unit, statement, looped):
    """Visit a while statement, whose else part does not belong to it."""
    _, line, test, body, other = statement
    visit_expr(survey, unit, test, line)
    visit_block(survey, unit, body, True)
    visit_block(survey, unit, other, looped)


def visit_for(survey, unit, statement, looped):
    """Visit a for statement, whose else part does not belong to it."""
    _, line, target, iterable, body, other = statement
    visit_target(survey, unit, target, line)
    visit_expr(survey, unit, iterable, line)
    visit_block(survey, unit, body, True)
    visit_block(survey, unit, other, looped)


def visit_def(survey, unit, statement, looped):
    """Visit a function, whose name is bound."""
    survey.drafts[unit].bind_name(statement[2])
    visit_function(survey, unit, statement)


def visit_function(survey, unit, statement):
    """Visit a function, the name of which a class may have."""
    _, line, name, params, body = statement
    inner = visit_params(survey, unit, Draft(name, line, unit, params, body), params)
    visit_body(survey, inner, body)


def visit_class(survey, unit, statement, looped):
    """Visit a class; its items stand in the unit in which it stands."""
    _, line, name, base, items = statement
    survey.drafts[unit].bind_name(name)
    visit_optional(survey, unit, base, line)
    taken = {}
    for item in items:
        if item[0] == "pass":
            continue
        attribute = item[2] if item[0] == "def" else item[2][1]
        if attribute in taken:
            survey.find_fault(item[1])
        taken[attribute] = True
        if item[0] == "def":
            visit_function(survey, unit, item)
        else:
            visit_expr(survey, unit, item[3], item[1])


def visit_with(survey, unit, statement, looped):
    """Visit a with statement."""
    _, line, a, name, body = statement
    visit_expr(survey, unit, a, line)
    visit_name(survey, unit, name)
    visit_block(survey, unit, body, looped)


def visit_try(survey, unit, statement, looped):
    """Visit a try statement with its clauses."""
    _, _, body, clauses, other, final = statement
    visit_block(survey, unit, body, looped)
    for line, a, name, block in clauses:
        visit_optional(survey, unit, a, line)
        visit_name(survey, unit, name)
        visit_block(survey, unit, block, looped)
    visit_block(survey, unit, other, looped)
    visit_block(survey, unit, final, looped)


VISITS = {
    "expr": visit_plain,
    "raise": visit_plain,
    "return": visit_return,
    "assign": visit_assign,
    "augment": visit_assign,
    "delete": visit_delete,
    "global": visit_late_declaration,
    "nonlocal": visit_late_declaration,
    "if": visit_if,
    "while": visit_while,
    "for": visit_for,
    "def": visit_def,
    "class": visit_class,
    "with": visit_with,
    "try": visit_try,
}
