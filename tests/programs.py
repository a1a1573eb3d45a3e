"""Random programs of which most parts run: with functions, classes, generators, and errors that are caught or not."""

from likerun.errors import TooLong
from likerun.scopes import read_program

PRELUDE = '''class E(Error):
    code = 1
    def told(self):
        return self.message
class F(E):
    def init(self, message, code=2):
        self.message = message
        self.code = code
class S(StopError):
    pass
class C(CloseError):
    pass
class W:
    kept = 0
    def init(self, drop=False):
        self.drop = drop
    def enter(self):
        print("enter", self.drop)
        return self
    def leave(self, error):
        print("leave", error)
        if self.drop == 2:
            raise E(2)
        if self.drop == 3:
            return 1 // 0
        return self.drop
class P:
    def init(self, x, y=None):
        self.x = x
        self.y = y
    def sum(self, n=0):
        return self.x + n
def count(n, step=1):
    i = 0
    while i < n:
        try:
            got = yield i
            if got:
                print("got", got)
                i += got
        except CloseError:
            print("closed")
            raise
        finally:
            i += step
    return i
def fail(kind, n=0):
    if n:
        return fail(kind, n - 1)
    raise kind
def adder(n):
    def add(m):
        nonlocal n
        n += m
        return n
    return add
'''
CLASSES = ("Error", "E", "F", "S", "C", "KindError", "ValueError", "NameError", "FieldError", "FindError", "RangeError",
           "KeyError", "ZeroError", "SizeError", "DepthError", "StopError", "CloseError", "FlowError")


class ProgramMaker:
    """Makes a random program."""

    def __init__(self, rng):
        self.rng = rng
        self.rows = []
        self.functions = []
        self.generators = ["count"]
        self.deep = 0

    def text(self):
        self.rows = PRELUDE.rstrip("\n").split("\n")
        for _ in range(self.rng.randrange(1, 5)):
            self.function("", ())
        names = ("a", "b", "xs", "d", "p", "g")
        for row in ("a = 1", 'b = "ab"', "xs = [1, 2]", 'd = {"a": 1}', "p = P(1, 2)", "g = count(3)"):
            if self.rng.random() < 0.95:
                self.put("", row)
        for _ in range(self.rng.randrange(4, 10)):
            if self.rng.random() < 0.97:
                self.put("", "try:")
                self.inner("", names, {})
                self.put("", "except " + self.rng.choice(["Error"] * 12 + ["(E, Error)", "E"]) + " as e:")
                self.put("    ", "print(e, e.cause)" if self.rng.random() < 0.02 else "print(e)")
            else:
                self.block("", names, 1, {})
        return "\n".join(self.rows) + "\n"

    def name(self, names):
        return self.rng.choice(names)

    # Expressions.

    def atom(self, names):
        rng = self.rng
        pick = rng.randrange(12)
        if pick < 5:
            return self.name(names)
        return (str(rng.randrange(4)), '"' + rng.choice(["", "a", "ab", "x,y"]) + '"', "None", rng.choice(["True", "False"]),
                "[]", "()", "{}")[pick - 5]

    def number(self, names):
        return self.rng.choice(["0", "1", "2", "3", "7", "-1", "len(xs)", self.name(names)])

    def expr(self, names, depth=2):
        rng = self.rng
        if depth <= 0 or rng.random() < 0.2:
            return self.atom(names)
        kinds = [
            self.sum_of, self.sum_of, self.sequence, self.mapping, self.comp, self.comparison, self.logic, self.choice,
            self.call, self.call, self.builtin, self.builtin, self.field, self.item, self.instance, self.method,
            self.generator, self.closure]
        return rng.choice(kinds)(names, depth - 1)

    def sum_of(self, names, depth):
        op = self.rng.choice(["+", "-", "*", "//", "mod"])
        if self.rng.random() < 0.7:
            return "(" + self.number(names) + " " + op + " " + self.number(names) + ")"
        return "(" + self.expr(names, depth) + " " + op + " " + self.expr(names, depth) + ")"

    def sequence(self, names, depth):
        items = [self.expr(names, depth) for _ in range(self.rng.randrange(4))]
        if self.rng.random() < 0.5:
            return "[" + ", ".join(items) + "]"
        return "(" + ", ".join(items) + ("," if len(items) == 1 else "") + ")"

    def mapping(self, names, depth):
        pairs = [self.rng.choice(['"a"', '"b"', "1", "(1, 2)", self.atom(names)]) + ": " + self.expr(names, depth)
                 for _ in range(self.rng.randrange(3))]
        return "{" + ", ".join(pairs) + "}"

    def comp(self, names, depth):
        rng = self.rng
        target = rng.choice(["k", "k", "k, v", "k,"])
        inner = tuple(names) + ("k",)
        source = rng.choice(["xs", "range(3)", '"abc"', "count(2)", "d", "d.items()", "[(1, 2), (3, 4)]", "[[5]]",
                             self.name(names)])
        test = " if " + self.logic(inner, 0) if rng.random() < 0.4 else ""
        return "[" + self.expr(inner, depth) + " for " + target + " in " + source + test + "]"

    def comparison(self, names, depth):
        rng = self.rng
        ops = ["==", "!=", "<", "<=", ">", ">=", "in", "not in", "is", "is not"]
        text = self.number(names)
        for _ in range(rng.randrange(1, 3)):
            text += " " + rng.choice(ops) + " " + rng.choice([self.number(names), self.atom(names)])
        return "(" + text + ")"

    def logic(self, names, depth):
        parts = [self.rng.choice(["", "not "]) + self.atom(names) for _ in range(self.rng.randrange(1, 4))]
        return "(" + self.rng.choice([" and ", " or "]).join(parts) + ")"

    def choice(self, names, depth):
        return "({} if {} else {})".format(self.expr(names, depth), self.atom(names), self.expr(names, depth))

    def arguments(self, names, depth, low, high):
        many = self.rng.choice(list(range(low, high + 1)) * 4 + [high + 1])
        return [self.expr(names, depth) for _ in range(many)]

    def call(self, names, depth):
        rng = self.rng
        if self.functions and rng.random() < 0.8:
            name, params, defaults = rng.choice(self.functions)
            given = self.arguments(names, depth, len(params) - defaults, len(params))
            if params and rng.random() < 0.2:
                given = given[:-1] + [params[-1] + "=" + self.atom(names)]
            return name + "(" + ", ".join(given) + ")"
        return rng.choice(["fail({}, {})".format(self.error(names), rng.randrange(3)), "(lambda q, r=2: q)({})".format(
            self.atom(names)), "adder(1)({})".format(self.number(names))])

    def error(self, names):
        rng = self.rng
        name = rng.choice(CLASSES)
        return name + "(" + rng.choice(["", self.atom(names), "1, code=3" if name == "F" else "1"]) + ")"

    def builtin(self, names, depth):
        rng = self.rng
        form = rng.choice(["len({})", "str({})", "repr({})", "int({})", "abs({})", "min({}, 1)", "max([{}, 2])", "list({})",
                           "tuple({})", "isinstance({}, Error)", "isinstance({}, (E, P))", "iter({})", "kind({})",
                           "range({})", "next({})", "next({}, 0)", "take()", "print({})"])
        return form.format(self.expr(names, depth))

    def field(self, names, depth):
        return self.name(names) + "." + self.rng.choice(["x", "y", "message", "cause", "code", "drop", "sum"])

    def item(self, names, depth):
        rng = self.rng
        index = rng.choice(["0", "-1", '"a"', self.number(names), "1:", "::-1", ":2"])
        return rng.choice(["xs", "d", '"abc"', self.name(names)]) + "[" + index + "]"

    def instance(self, names, depth):
        form = self.rng.choice(["P({})", "P({}, 1)", "E({})", "F({})", "W({})", "P({}).sum()", "E({}).told()"])
        return form.format(self.atom(names))

    def method(self, names, depth):
        form = self.rng.choice(["xs.append({})", "xs.pop()", "xs.index({})", "d.get({}, 1)", "d.keys()", '"a,b".split({})',
                                '",".join({})', "p.sum({})", "g.send({})", "g.close()", "xs.insert(0, {})", "xs.reverse()",
                                "d.pop({}, 0)", "xs.extend({})"])
        return form.format(self.atom(names))

    def generator(self, names, depth):
        name = self.rng.choice(self.generators)
        return self.rng.choice(["{}({})", "next({}({}))", "list([k for k in {}({})])"]).format(name, self.number(names))

    def closure(self, names, depth):
        return "(lambda: {})".format(self.expr(names, depth)) + self.rng.choice(["", "()"])

    # Statements.

    def block(self, margin, names, many, where):
        for _ in range(many):
            self.statement(margin, names, where)

    def put(self, margin, text):
        self.rows.append(margin + text)

    def statement(self, margin, names, where):
        rng = self.rng
        kinds = [self.assign] * 4 + [self.show] * 3 + [self.raising, self.expression, self.augment, self.delete]
        if len(margin) < 20 and len(self.rows) < 130:
            kinds += [self.branch, self.loop, self.each, self.guard, self.guard, self.guard, self.context, self.context]
            kinds += [lambda *given: self.function(given[0], names)]
        if where.get("loop"):
            kinds += [self.jump] * 2
        if where.get("def"):
            kinds += [self.give] * 2
        if where.get("yields"):
            kinds += [self.yielding] * 3
        rng.choice(kinds)(margin, names, where)

    def assign(self, margin, names, where):
        rng = self.rng
        target = rng.choice([self.name(names), self.name(names), self.name(names), "xs[0]", 'd["a"]', "p.x", "p.z",
                             self.name(names) + ", " + self.name(names), self.name(names) + ".x", "a, p.y"])
        if ", " in target and rng.random() < 0.7:
            self.put(margin, target + " = " + self.expr(names, 1) + ", " + self.expr(names, 1))
        else:
            self.put(margin, target + " = " + self.expr(names))

    def show(self, margin, names, where):
        self.put(margin, "print(" + ", ".join([self.expr(names) for _ in range(self.rng.randrange(1, 3))]) + ")")

    def expression(self, margin, names, where):
        self.put(margin, self.expr(names, 3))

    def augment(self, margin, names, where):
        target = self.rng.choice([self.name(names), "xs[0]", 'd["a"]', "p.x", "xs[-1]"])
        self.put(margin, target + self.rng.choice([" += ", " -= ", " *= ", " //= "]) + self.number(names))

    def delete(self, margin, names, where):
        self.put(margin, "del " + self.rng.choice([self.name(names), "xs[0]", 'd["a"]', "p.z", "p.y", "xs[" + self.number(
            names) + "]"]))

    def raising(self, margin, names, where):
        rng = self.rng
        if rng.random() < 0.5:
            self.put(margin, "if {}:".format(self.comparison(names, 0)))
            margin += "    "
        self.put(margin, rng.choice(["raise", "raise " + self.error(names), "raise " + self.error(names) + " from " +
                                     rng.choice(["None", self.error(names), self.name(names)]), "raise " + self.name(names)]))

    def inner(self, margin, names, where, many=3, **more):
        self.block(margin + "    ", names, self.rng.randrange(1, many), dict(where, **more))

    def branch(self, margin, names, where):
        self.put(margin, "if " + self.expr(names, 1) + ":")
        self.inner(margin, names, where)
        if self.rng.random() < 0.3:
            self.put(margin, "elif " + self.expr(names, 1) + ":")
            self.inner(margin, names, where)
        if self.rng.random() < 0.4:
            self.put(margin, "else:")
            self.inner(margin, names, where)

    def otherwise(self, margin, names, where):
        if self.rng.random() < 0.3:
            self.put(margin, "else:")
            self.inner(margin, names, where)

    def loop(self, margin, names, where):
        name = self.name(names)
        self.put(margin, name + " = " + str(self.rng.randrange(3)))
        self.put(margin, "while " + name + " < " + self.rng.choice(["2", "3"]) + ":")
        self.put(margin + "    ", name + " += 1")
        self.inner(margin, names, where, loop=True)
        self.otherwise(margin, names, where)

    def each(self, margin, names, where):
        rng = self.rng
        source = rng.choice(["range(3)", "xs", "d", "g", '"abc"', "[1, 2]", self.expr(names, 1), "d.items()",
                             rng.choice(self.generators) + "(3)"])
        target = rng.choice([self.name(names), self.name(names), self.name(names) + ", " + self.name(names)])
        self.put(margin, "for " + target + " in " + source + ":")
        self.inner(margin, names, where, loop=True)
        self.otherwise(margin, names, where)

    def guard(self, margin, names, where):
        rng = self.rng
        self.put(margin, "try:")
        self.inner(margin, names, where, 4)
        clauses = 0
        for _ in range(rng.randrange(3)):
            clauses += 1
            cls = rng.choice([rng.choice(CLASSES), "Error", "(" + rng.choice(CLASSES) + ", " + rng.choice(CLASSES) + ")"])
            if rng.random() < 0.05:
                cls = self.atom(names)
            name = " as " + self.name(names) if rng.random() < 0.6 else ""
            self.put(margin, "except " + cls + name + ":")
            self.inner(margin, names, where)
        if rng.random() < 0.3:
            clauses += 1
            self.put(margin, "except:")
            self.inner(margin, names, where)
        if clauses:
            self.otherwise(margin, names, where)
        if not clauses or rng.random() < 0.4:
            self.put(margin, "finally:")
            self.inner(margin, names, where)

    def context(self, margin, names, where):
        rng = self.rng
        what = rng.choice(["W()", "W(True)", "W(False)", "W(2)", "W(3)", "p", "P(1)", "W({})".format(self.atom(names))])
        name = " as " + self.name(names) if rng.random() < 0.5 else ""
        self.put(margin, "with " + what + name + ":")
        self.inner(margin, names, where, 4)

    def jump(self, margin, names, where):
        if self.rng.random() < 0.6:
            self.put(margin, "if " + self.comparison(names, 0) + ":")
            margin += "    "
        self.put(margin, self.rng.choice(["break", "continue"]))

    def give(self, margin, names, where):
        self.put(margin, "return" + self.rng.choice(["", " " + self.expr(names)]))

    def yielding(self, margin, names, where):
        self.put(margin, self.rng.choice(["yield", "yield " + self.expr(names, 1), self.name(names) + " = yield",
                                          self.name(names) + " = yield " + self.expr(names, 1)]))

    def function(self, margin, names):
        rng = self.rng
        name = "f" + str(len(self.rows))
        params = ["u", "w"][:rng.randrange(3)]
        defaults = rng.randrange(len(params) + 1)
        heads = [param + ("=" + rng.choice(["1", "[2]", '"w"']) if at >= len(params) - defaults else "")
                 for at, param in enumerate(params)]
        self.put(margin, "def " + name + "(" + ", ".join(heads) + "):")
        if rng.random() < 0.5:
            self.put(margin + "    ", "global a")
        for row in ("b = [1]", "xs = [3, 4]", "k = 2"):
            if rng.random() < 0.8:
                self.put(margin + "    ", row)
        yields = rng.random() < 0.4
        mine = tuple(params) + ("a", "b", "xs", "k")
        self.inner(margin, mine, {"def": True, "yields": yields}, 5)
        if yields:
            self.put(margin + "    ", "yield 1")
            self.generators.append(name)
        if not margin:
            self.functions.append((name, params, defaults))


def random_program(rng):
    """Return a random program; a text that is too long is dropped."""
    while True:
        try:
            return read_program(ProgramMaker(rng).text())
        except TooLong:
            pass
