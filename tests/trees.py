"""Random trees of points 14 and 15, which the reader would return for some text."""

NAMES = ("a", "b", "c", "xs", "f")
COMPARING = ("==", "!=", "<", "<=", ">", ">=", "in", "not in", "is", "is not")


class TreeMaker:
    """Makes random trees; all lines are 0."""

    def __init__(self, rng):
        self.rng = rng

    def name(self):
        return ("name", self.rng.choice(NAMES))

    def maybe(self, depth):
        return self.expr(depth) if self.rng.random() < 0.5 else None

    def exprs(self, depth, low, high):
        return tuple(self.expr(depth) for _ in range(self.rng.randrange(low, high)))

    def atom(self):
        rng = self.rng
        return rng.choice([
            self.name(), self.name(), ("none",), ("truth", rng.random() < 0.5), ("number", rng.randrange(3)),
            ("text", rng.choice(["", "a", 'q"', "b\\", "x\ny"])), ("tuple", ()), ("list", ()), ("dict", ())])

    def expr(self, depth):
        """Make an expression with about so many levels."""
        if depth <= 0:
            return self.atom()
        kinds = ("atom", "tuple", "list", "dict", "comp", "unary", "binary", "compare", "and", "or", "choose", "lambda",
                 "call", "attribute", "item", "slice")
        return getattr(self, "make_" + self.rng.choice(kinds))(depth - 1)

    def make_atom(self, depth):
        return self.atom()

    def make_tuple(self, depth):
        return ("tuple", self.exprs(depth, 0, 3))

    def make_list(self, depth):
        return ("list", self.exprs(depth, 0, 3))

    def make_dict(self, depth):
        return ("dict", tuple((self.expr(depth), self.expr(depth)) for _ in range(self.rng.randrange(3))))

    def make_comp(self, depth):
        return ("comp", self.expr(depth), self.loop_target(), self.expr(depth), self.maybe(depth))

    def make_unary(self, depth):
        return ("unary", self.rng.choice(["-", "not"]), self.expr(depth))

    def make_binary(self, depth):
        return ("binary", self.rng.choice(["+", "-", "*", "//", "mod"]), self.expr(depth), self.expr(depth))

    def make_compare(self, depth):
        links = tuple((self.rng.choice(COMPARING), self.expr(depth)) for _ in range(self.rng.randrange(1, 3)))
        return ("compare", self.expr(depth), links)

    def make_and(self, depth):
        return ("and", self.exprs(depth, 2, 4))

    def make_or(self, depth):
        return ("or", self.exprs(depth, 2, 4))

    def make_choose(self, depth):
        return ("choose", self.expr(depth), self.expr(depth), self.expr(depth))

    def make_lambda(self, depth):
        return ("lambda", self.params(depth), self.expr(depth))

    def make_call(self, depth):
        named = tuple((self.rng.choice(NAMES), self.expr(depth)) for _ in range(self.rng.randrange(2)))
        return ("call", self.expr(depth), self.exprs(depth, 0, 3), named)

    def make_attribute(self, depth):
        return ("attribute", self.expr(depth), self.rng.choice(NAMES))

    def make_item(self, depth):
        return ("item", self.expr(depth), self.expr(depth))

    def make_slice(self, depth):
        return ("slice", self.expr(depth), self.maybe(depth), self.maybe(depth), self.maybe(depth))

    def params(self, depth):
        plain = self.rng.randrange(3)
        params = [(name, None) for name in "pqr"[:plain]]
        return tuple(params + [(name, self.expr(depth)) for name in "uv"[:self.rng.randrange(3)]])

    def loop_target(self):
        many = self.rng.randrange(4)
        if many == 0:
            return self.name()
        return ("tuple", tuple(self.name() for _ in range(many)))

    def place(self, depth):
        """Make a target that is no tuple."""
        return self.rng.choice([self.name(), self.make_attribute(depth), self.make_item(depth)])

    def target(self, depth):
        if self.rng.random() < 0.6:
            return self.place(depth)
        return ("tuple", tuple(self.place(depth) for _ in range(self.rng.randrange(1, 4))))

    def right(self, depth):
        if self.rng.random() < 0.2:
            return ("yield", self.maybe(depth))
        return self.expr(depth)

    def block(self, depth, low=1):
        return tuple(self.statement(depth) for _ in range(self.rng.randrange(low, 4)))

    def statement(self, depth):
        """Make a statement with about so many levels."""
        rng = self.rng
        simple = ("expr", "assign", "augment", "delete", "return", "raise", "word", "declare")
        compound = ("if", "while", "for", "def", "class", "try", "with")
        kind = rng.choice(simple if depth <= 0 or rng.random() < 0.4 else compound)
        return getattr(self, "state_" + kind)(depth - 1)

    def state_expr(self, depth):
        return ("expr", 0, self.right(depth))

    def state_assign(self, depth):
        return ("assign", 0, self.target(depth), self.right(depth))

    def state_augment(self, depth):
        return ("augment", 0, self.place(depth), self.rng.choice(["+", "-", "*", "//"]), self.expr(depth))

    def state_delete(self, depth):
        return ("delete", 0, self.place(depth))

    def state_return(self, depth):
        return ("return", 0, self.maybe(depth))

    def state_raise(self, depth):
        a = self.maybe(depth)
        return ("raise", 0, a, None if a is None else self.maybe(depth))

    def state_word(self, depth):
        return (self.rng.choice(["pass", "break", "continue"]), 0)

    def state_declare(self, depth):
        names = tuple(self.rng.choice(NAMES) for _ in range(self.rng.randrange(1, 3)))
        return (self.rng.choice(["global", "nonlocal"]), 0, names)

    def state_if(self, depth):
        return ("if", 0, self.expr(depth), self.block(depth), self.block(depth, 0))

    def state_while(self, depth):
        return ("while", 0, self.expr(depth), self.block(depth), self.block(depth, 0))

    def state_for(self, depth):
        return ("for", 0, self.loop_target(), self.expr(depth), self.block(depth), self.block(depth, 0))

    def state_def(self, depth):
        return ("def", 0, self.rng.choice(NAMES), self.params(depth), self.block(depth))

    def state_class(self, depth):
        items = [self.rng.choice([("pass", 0), ("assign", 0, self.name(), self.expr(depth)), self.state_def(depth)])
                 for _ in range(self.rng.randrange(1, 4))]
        return ("class", 0, self.rng.choice(NAMES), self.rng.choice([None, self.name()]), tuple(items))

    def state_with(self, depth):
        return ("with", 0, self.expr(depth), self.rng.choice([None, "a"]), self.block(depth))

    def state_try(self, depth):
        clauses = []
        for _ in range(self.rng.randrange(3)):
            clauses.append((0, self.expr(depth), self.rng.choice([None, "e"]), self.block(depth)))
        if self.rng.random() < 0.3:
            clauses.append((0, None, None, self.block(depth)))
        other = self.block(depth, 0) if clauses else ()
        final = self.block(depth, 0 if clauses else 1)
        return ("try", 0, self.block(depth), tuple(clauses), other, final)
