"""Points 11, 12, 14 and 15 against two other readers.

The grammar below is that of point 11, with the forms of "try" written out. Random programs of it are made and
broken. A reader for any grammar (Earley's) tells the first token with which no program goes on; Python's own parser,
whose language is wider, tells the trees.
"""

import ast
import random
import unittest

from likerun.errors import SourceError
from likerun.signs import layout, tokens
from likerun.trees import read_tree
from tests.helpers import SourceCase, outcome

GRAMMAR = """
program    = {statement} END
statement  = simple NEWLINE | compound
block      = ":" NEWLINE INDENT statement {statement} DEDENT
simple     = "pass" | "break" | "continue"
           | "return" [exprs] | "raise" [expr ["from" expr]]
           | "del" expr | ("global" | "nonlocal") NAME {"," NAME}
           | yielding | exprs
           | exprs "=" (yielding | exprs)
           | exprs ("+=" | "-=" | "*=" | "//=") exprs
yielding   = "yield" [exprs]
compound   = "if" expr block {"elif" expr block} ["else" block]
           | "while" expr block ["else" block]
           | "for" names "in" exprs block ["else" block]
           | "def" NAME "(" [params] ")" block
           | "class" NAME ["(" NAME ")"] ":" NEWLINE INDENT item {item} DEDENT
           | "with" expr ["as" NAME] block
           | "try" block "except" expr ["as" NAME] block {"except" expr ["as" NAME] block} ["except" block] \
["else" block] ["finally" block]
           | "try" block "except" block ["else" block] ["finally" block]
           | "try" block "finally" block
item       = "pass" NEWLINE | NAME "=" exprs NEWLINE | "def" NAME "(" [params] ")" block
params     = param {"," param} [","]
param      = NAME ["=" expr]
names      = NAME {"," NAME} [","]
exprs      = expr [","] | expr "," expr {"," expr} [","]
expr       = "lambda" [params] ":" expr | choice
choice     = or_ ["if" or_ "else" expr]
or_        = and_ {"or" and_}
and_       = not_ {"and" not_}
not_       = "not" not_ | comparison
comparison = sum {comparing sum}
comparing  = "==" | "!=" | "<" | "<=" | ">" | ">=" | "in" | "not" "in" | "is" | "is" "not"
sum        = product {("+" | "-") product}
product    = negation {("*" | "//" | "mod") negation}
negation   = "-" negation | postfix
postfix    = atom {"." NAME | "[" exprs "]" | "[" [expr] ":" [expr] [":" [expr]] "]" | "(" [arguments] ")"}
arguments  = argument {"," argument} [","]
argument   = expr | NAME "=" expr
atom       = NAME | NUMBER | TEXT | "None" | "True" | "False"
           | "(" ")" | "(" exprs ")" | "{" [expr ":" expr {"," expr ":" expr} [","]] "}"
           | "[" [expr {"," expr} [","]] "]" | "[" expr "for" names "in" or_ ["if" or_] "]"
"""
# Each form of a statement and of an item, with and without what may be left out.
FORMS = (
    "pass", "break", "continue", "return", "return a", "return a, b,", "raise", "raise a", "raise a from b", "del a",
    "del a.b", "del a[b]", "global a", "global a, b", "nonlocal a", "nonlocal a, b, c", "yield", "yield a", "a", "a,",
    "a, b", "a = b", "a, b = c", "a = yield", "a = yield b", "a.b = c, d", "a += b", "a -= b", "a *= b", "a //= b, c",
    "if a:\n b", "if a:\n b\nelse:\n c", "if a:\n b\nelif c:\n d", "if a:\n b\nelif c:\n d\nelse:\n e",
    "while a:\n b", "while a:\n b\nelse:\n c", "for a in b:\n c", "for a, in b, c:\n d\nelse:\n e",
    "def f():\n a", "def f(a):\n b", "def f(a, b=c,):\n d", "class A:\n pass", "class A(B):\n a = b",
    "class A:\n a = b, c\n def f(a=b):\n  c\n pass", "with a:\n b", "with a as b:\n c", "try:\n a\nfinally:\n b",
    "try:\n a\nexcept:\n b", "try:\n a\nexcept a:\n b", "try:\n a\nexcept a as b:\n c\nexcept:\n d\nelse:\n e",
    "try:\n a\nexcept a:\n b\nelse:\n c\nfinally:\n d", "lambda: a", "lambda a, b=c,: d", "a if b else c",
    "a or b and not c", "a < b not in c is not d", "a + -b * c // d mod e", "a.b[c](d, e=f,)", "a[:]", "a[b:c:d]",
    "a[::]", "a[b,]", "()", "(a,)", "(a)", "{}", "{a: b, c: d,}", "[]", "[a, b,]", "[a for b, c in d if e]",
    "f(a, b=c)", "'a'", "None", "True", "1",
)
INSERTED = (
    "NAME", "NUMBER", '","', '":"', '"="', '"+="', '"."', '"-"', '"<"', '"not"', '"in"', '"is"', '"if"', '"else"',
    '"elif"', '"for"', '"lambda"', '"as"', '"from"', '"yield"', '"pass"', '"except"', '"finally"', '"def"', "NEWLINE",
)
TERMINALS = ("NAME", "NUMBER", "TEXT", "NEWLINE", "INDENT", "DEDENT", "END")
SAMPLES = {"NAME": "abc", "NUMBER": (0, 1, 12), "TEXT": ("", "x", "it's \"\\\n(")}
CLOSING = {"(": ")", "[": "]", "{": "}"}


class Grammar:
    """The rules of the grammar without brackets: each name has a list of rows of names and terminals."""

    def __init__(self, text):
        self.rows = {}
        self.nullable = set()
        head = ""
        bodies = {}
        for line in text.split("\n"):
            if line.strip():
                left, _, right = line.partition(" = ") if line[0] != " " else ("", "", line)
                head = left.strip() or head
                bodies[head] = bodies.get(head, "") + " " + right
        for head in bodies:
            words = bodies[head].replace('"("', '"OPEN"').replace('")"', '"CLOSE"')
            for sign in "[]{}":
                words = words.replace('"' + sign + '"', '"' + str("[]{}".index(sign)) + '"')
            for sign in "()[]{}|":
                words = words.replace(sign, " " + sign + " ")
            self.words = [self.restored(word) for word in words.split()]
            self.rows[head] = self.choices()
        self.find_nullable()

    def restored(self, word):
        """Give the bracket signs in quotes back, which were renamed while the words were parted."""
        return {'"OPEN"': '"("', '"CLOSE"': '")"', '"0"': '"["', '"1"': '"]"', '"2"': '"{"', '"3"': '"}"'}.get(
            word, word)

    def choices(self):
        """Read choices up to a closing bracket or the end."""
        rows = [[]]
        while self.words and self.words[0] not in (")", "]", "}"):
            word = self.words.pop(0)
            if word == "|":
                rows.append([])
            elif word in CLOSING:
                rows[-1].append(self.part(word))
            else:
                rows[-1].append(word)
        return [tuple(row) for row in rows]

    def part(self, bracket):
        """Read a part in brackets, and give it a name of its own."""
        inner = self.choices()
        self.words.pop(0)
        name = "part" + str(len(self.rows))
        self.rows[name] = []
        if bracket == "{":
            inner = [(name,) + row for row in inner]
        self.rows[name] = inner + ([()] if bracket != "(" else [])
        return name

    def find_nullable(self):
        """Find the names that stand for no tokens, too."""
        many = -1
        while many != len(self.nullable):
            many = len(self.nullable)
            for name in self.rows:
                if any(all(word in self.nullable for word in row) for row in self.rows[name]):
                    self.nullable.add(name)

    def first_fault(self, words):
        """Return the index of the first token with which no program goes on; None if there is none."""
        columns = [self.closed([("program", row, 0, 0) for row in self.rows["program"]], [], 0)]
        for at, word in enumerate(words):
            moved = [(name, row, dot + 1, start) for name, row, dot, start in columns[-1]
                     if dot < len(row) and row[dot] == word]
            if not moved:
                return at
            columns.append(self.closed(moved, columns, at + 1))
        return None

    def closed(self, items, columns, at):
        """Return all the states that these bring with them."""
        seen = set(items)
        queue = list(items)
        for name, row, dot, start in queue:
            found = []
            if dot == len(row):
                origin = queue if start == at else columns[start]
                found = [(outer, line, spot + 1, begin) for outer, line, spot, begin in origin
                         if spot < len(line) and line[spot] == name]
            elif row[dot] in self.rows:
                found = [(row[dot], line, 0, at) for line in self.rows[row[dot]]]
                if row[dot] in self.nullable:
                    found.append((name, row, dot + 1, start))
            for item in found:
                if item not in seen:
                    seen.add(item)
                    queue.append(item)
        return queue

    def derive(self, name, rng, found, many):
        """Put the words of a random text of this name behind those found: about so many in all."""
        if name not in self.rows:
            found.append(name)
            return
        rows = self.rows[name]
        if len(found) >= many or name.startswith("part") and rng.random() < 0.6:
            rows = [min(rows, key=self.cost)]
        for word in rng.choice(rows):
            self.derive(word, rng, found, many)

    def cost(self, row):
        """A measure of how much a row may bring with it."""
        return sum(3 if word in ("statement", "compound", "block", "exprs", "expr") else 1 for word in row)


def words_of(marks):
    """Return the terminals of the grammar for a list of tokens."""
    found = []
    for mark in marks:
        plain = mark[0] in ("keyword", "sign")
        found.append('"' + mark[1] + '"' if plain else mark[0].upper())
    return found


def marks_of(words, rng):
    """Return tokens without places for a list of terminals."""
    found = []
    for word in words:
        if word in TERMINALS:
            sample = rng.choice(SAMPLES[word]) if word in SAMPLES else ""
            found.append((word.lower(), sample))
        else:
            found.append(("keyword" if word[1].isalpha() else "sign", word[1:-1]))
    return found


def stretched(text, rng):
    """Put line feeds, comments and spaces where they change no token but its place."""
    found = []
    depth = 0
    quoted = False
    for at, sign in enumerate(text):
        if sign == '"' and (text[at - 1] != "\\" or text[at - 2] == "\\"):
            quoted = not quoted
        elif not quoted:
            depth += (sign in "([{") - (sign in ")]}")
        if sign == " " and not quoted and depth > 0 and rng.random() < 0.1:
            sign = rng.choice(["\n", "  ", " # (\n\n   ", "\n# '\n"])
        if sign == "\n" and depth == 0 and rng.random() < 0.1:
            sign = rng.choice(["\n\n", "  # )\n", "\n     \n", "\n       # if\n"])
        found.append(sign)
    return "".join(found)


class Translation:
    """Trees of point 14 and 15 from those of Python's own parser."""

    OPERATORS = {
        ast.Add: "+", ast.Sub: "-", ast.Mult: "*", ast.FloorDiv: "//", ast.Mod: "mod", ast.USub: "-",
        ast.Not: "not", ast.Eq: "==", ast.NotEq: "!=", ast.Lt: "<", ast.LtE: "<=", ast.Gt: ">", ast.GtE: ">=",
        ast.In: "in", ast.NotIn: "not in", ast.Is: "is", ast.IsNot: "is not", ast.And: "and", ast.Or: "or",
    }

    def op(self, node):
        return self.OPERATORS[type(node)]

    def expr(self, node):
        """Translate an expression, or None."""
        if node is None:
            return None
        return getattr(self, "expr_" + type(node).__name__)(node)

    def exprs(self, nodes):
        return tuple(self.expr(node) for node in nodes)

    def expr_Constant(self, node):
        if node.value is None:
            return ("none",)
        kinds = {bool: "truth", int: "number", str: "text"}
        return (kinds[type(node.value)], node.value)

    def expr_Name(self, node):
        return ("name", node.id)

    def expr_Tuple(self, node):
        return ("tuple", self.exprs(node.elts))

    def expr_List(self, node):
        return ("list", self.exprs(node.elts))

    def expr_Dict(self, node):
        return ("dict", tuple(zip(self.exprs(node.keys), self.exprs(node.values))))

    def expr_ListComp(self, node):
        (part,) = node.generators
        tests = self.exprs(part.ifs) or (None,)
        return ("comp", self.expr(node.elt), self.expr(part.target), self.expr(part.iter)) + tests

    def expr_UnaryOp(self, node):
        return ("unary", self.op(node.op), self.expr(node.operand))

    def expr_BinOp(self, node):
        return ("binary", self.op(node.op), self.expr(node.left), self.expr(node.right))

    def expr_Compare(self, node):
        ops = [self.op(op) for op in node.ops]
        return ("compare", self.expr(node.left), tuple(zip(ops, self.exprs(node.comparators))))

    def expr_BoolOp(self, node):
        return (self.op(node.op), self.exprs(node.values))

    def expr_IfExp(self, node):
        return ("choose", self.expr(node.test), self.expr(node.body), self.expr(node.orelse))

    def expr_Lambda(self, node):
        return ("lambda", self.params(node.args), self.expr(node.body))

    def expr_Call(self, node):
        named = tuple((word.arg, self.expr(word.value)) for word in node.keywords)
        return ("call", self.expr(node.func), self.exprs(node.args), named)

    def expr_Attribute(self, node):
        return ("attribute", self.expr(node.value), node.attr)

    def expr_Subscript(self, node):
        if isinstance(node.slice, ast.Slice):
            part = node.slice
            return ("slice", self.expr(node.value), self.expr(part.lower), self.expr(part.upper), self.expr(part.step))
        return ("item", self.expr(node.value), self.expr(node.slice))

    def expr_Yield(self, node):
        return ("yield", self.expr(node.value))

    def params(self, part):
        names = [arg.arg for arg in part.args]
        defaults = [None] * (len(names) - len(part.defaults)) + list(self.exprs(part.defaults))
        return tuple(zip(names, defaults))

    def block(self, nodes):
        return tuple(getattr(self, "stmt_" + type(node).__name__)(node) for node in nodes)

    def stmt_Expr(self, node):
        return ("expr", node.lineno, self.expr(node.value))

    def stmt_Assign(self, node):
        (target,) = node.targets
        return ("assign", node.lineno, self.expr(target), self.expr(node.value))

    def stmt_AugAssign(self, node):
        return ("augment", node.lineno, self.expr(node.target), self.op(node.op), self.expr(node.value))

    def stmt_Delete(self, node):
        (target,) = node.targets
        return ("delete", node.lineno, self.expr(target))

    def stmt_If(self, node):
        return ("if", node.lineno, self.expr(node.test), self.block(node.body), self.block(node.orelse))

    def stmt_While(self, node):
        return ("while", node.lineno, self.expr(node.test), self.block(node.body), self.block(node.orelse))

    def stmt_For(self, node):
        return ("for", node.lineno, self.expr(node.target), self.expr(node.iter), self.block(node.body),
                self.block(node.orelse))

    def stmt_FunctionDef(self, node):
        return ("def", node.lineno, node.name, self.params(node.args), self.block(node.body))

    def stmt_ClassDef(self, node):
        base = self.expr(node.bases[0]) if node.bases else None
        return ("class", node.lineno, node.name, base, self.block(node.body))

    def stmt_Return(self, node):
        return ("return", node.lineno, self.expr(node.value))

    def stmt_Raise(self, node):
        return ("raise", node.lineno, self.expr(node.exc), self.expr(node.cause))

    def stmt_Pass(self, node):
        return ("pass", node.lineno)

    def stmt_Break(self, node):
        return ("break", node.lineno)

    def stmt_Continue(self, node):
        return ("continue", node.lineno)

    def stmt_Try(self, node):
        clauses = tuple((part.lineno, self.expr(part.type), part.name, self.block(part.body))
                        for part in node.handlers)
        return ("try", node.lineno, self.block(node.body), clauses, self.block(node.orelse),
                self.block(node.finalbody))

    def stmt_With(self, node):
        (item,) = node.items
        name = item.optional_vars.id if item.optional_vars else None
        return ("with", node.lineno, self.expr(item.context_expr), name, self.block(node.body))

    def stmt_Global(self, node):
        return ("global", node.lineno, tuple(node.names))

    def stmt_Nonlocal(self, node):
        return ("nonlocal", node.lineno, tuple(node.names))


def python_text(text):
    """Return the text with Python's sign for "mod", at the same lines."""
    rows = [list(row) for row in text.split("\n")]
    for mark in tokens(text):
        if mark[:2] == ("keyword", "mod"):
            rows[mark[2] - 1][mark[3] - 1:mark[3] + 2] = " % "
    return "\n".join("".join(row) for row in rows)


class TestGrammar(SourceCase):

    @classmethod
    def setUpClass(cls):
        cls.grammar = Grammar(GRAMMAR)

    def random_text(self, rng, broken):
        """Return a random text that part 1 accepts; with so many tokens changed before."""
        while True:
            words = []
            for _ in range(rng.randrange(1, 4)):
                self.grammar.derive("statement", rng, words, len(words) + rng.randrange(5, 30))
            marks = marks_of(words + ["END"], rng)
            for _ in range(broken):
                at = rng.randrange(len(marks) + 1)
                new = marks_of(rng.choice(self.pool(marks)), rng)
                marks[at:at + rng.randrange(2)] = new
            if not 6 < len(marks) < 120:
                continue
            text = layout(marks)
            if outcome(tokens, text)[0] != "accepted":
                continue
            longer = stretched(text, rng)
            if outcome(tokens, longer)[0] == "accepted":
                text = longer
            return text

    def pool(self, marks):
        """Return what a token may be replaced by: one, none or two others."""
        words = [word for word in words_of(marks) if word not in ("NEWLINE", "INDENT", "DEDENT", "END")]
        words += ["NAME", '","', '"="', '":"', '"."', '"not"', '"-"', '"in"', '"if"', '"else"', '"lambda"', '"for"']
        return [[word] for word in words] + [[]] * 5 + [["NEWLINE"], ['"("', '")"'], ['"["', '"]"'], ["NAME", '","']]

    def test_the_grammar_is_read(self):
        self.assertEqual(len([name for name in self.grammar.rows if not name.startswith("part")]), 25)
        for text, at in (("", None), ("a", None), ("a b", 1), ("a not b", 2), ("f((a)=1)", 5), ("if a:\n b", None)):
            self.assertEqual(self.grammar.first_fault(words_of(tokens(text))), at, text)

    def test_faults(self):
        rng = random.Random(12)
        counts = {"accepted": 0, "grammar": 0, "ahead": 0}
        for turn in range(6000):
            text = self.random_text(rng, 1 + turn % 3)
            counts[self.check_fault(text)] += 1
        self.assertGreater(counts["grammar"], 3000)
        self.assertGreater(counts["ahead"], 300)
        self.assertGreater(counts["accepted"], 300)

    def test_a_token_too_few_or_too_many(self):
        rng = random.Random(11)
        refused = 0
        for form in FORMS:
            self.assert_accepted(read_tree, form)
            marks = [mark[:2] for mark in tokens(form)]
            for at in range(len(marks)):
                changed = [marks[:at] + marks[at + 1:]]
                changed += [marks[:at] + marks_of([word], rng) + marks[at:] for word in INSERTED]
                for row in changed:
                    text = layout(row)
                    if outcome(tokens, text)[0] == "accepted":
                        refused += self.check_fault(text) != "accepted"
        self.assertGreater(refused, 8000)

    def check_fault(self, text):
        """The place of the fault is that of the other reader, or it is another fault ahead of it."""
        marks = tokens(text)
        at = self.grammar.first_fault(words_of(marks))
        found = outcome(read_tree, text)
        with self.subTest(text=text):
            if found == ("accepted", 0, 0):
                self.assertIsNone(at)
                return "accepted"
            if at is not None and found == ("BadSyntax",) + marks[at][2:]:
                return "grammar"
            place = [mark[2:] for mark in marks if mark[0] != "dedent"].index(found[1:])
            word = [mark[1] for mark in marks if mark[0] != "dedent"][place]
            self.assertTrue(at is None or found[1:] < marks[at][2:])
            # The places of the further rules, and the words that count.
            further = ("", "=", "+=", "-=", "*=", "//=", ",", ")", ":")
            deep = ("(", "[", "{", "not", "-", "lambda", "else", "elif")
            self.assertIn(word, further if found[0] == "BadSyntax" else deep)
        return "ahead"

    def test_trees(self):
        rng = random.Random(14)
        compared = 0
        for _ in range(6000):
            text = self.random_text(rng, 0)
            try:
                tree = read_tree(text)
            except SourceError:
                continue
            # Python reads brackets behind "with" in another way.
            if "with (" in text:
                continue
            compared += 1
            with self.subTest(text=text):
                module = ast.parse(python_text(text))
                self.assert_same(tree, Translation().block(module.body))
        self.assertGreater(compared, 3000)


if __name__ == "__main__":
    unittest.main()
