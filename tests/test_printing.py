"""Point 16: trees as source texts, and trees without lines."""

import random
import unittest

from likerun.errors import SourceError
from likerun.printing import print_tree, without_lines
from likerun.signs import tokens
from likerun.trees import read_tree
from tests import test_grammar
from tests.helpers import SourceCase, name
from tests.trees import TreeMaker

# Statements as they are written.
WRITTEN = """
x = 1
x = None
x = True, False
x = a,
x = a, b
x = ()
x = (a, b), (c,), ()
x = [(a, b), (c,)]
x = (a,),
a, b = b, a
a, = b
a.b, c[d], e = f
a.b = c
a[b] = c
a[b, c] = d
a[b,] = d
a[()] = d
a[(b, c), d] = e
x = yield
x = yield a
x = yield a, b
x = yield a,
yield
yield a
yield a,
yield (a, b), c
yield ()
a
a,
a, b
()
(a, b), c
x += 1
x -= a, b
x *= a,
x //= -a
a.b += ()
a[b, c] += [d]
del a
del a.b
del a[b, c]
return
return a
return a, b
return a,
return ()
return (a, b)[0]
raise
raise a
raise a from b
raise (a, b) from (c,)
raise a from None
raise lambda: a from b if c else d
pass
break
continue
global a
global a, b
nonlocal a, b, c
"a\\"b'c\\\\d\\ne"
""
[]
[a]
[a, b]
[(a,)]
{}
{a: b}
{a: b, (c, d): (e,)}
{lambda: a: b, c if d else e: lambda f: g}
[a for b in c]
[a for b, in c]
[a for b, c in d if e]
[(a, b) for b, c in (d, e) if (f, g)]
[lambda: a for b in (lambda: c) if (lambda: d)]
[a if b else c for d in (e if f else g) if (h if i else j)]
[not a for b in not c or d if not e]
[a in b for c in d in e]
-a
--a
-(-a + b)
-(not a)
-(a == b)
-a.b(c)[d]
(-a).b
(-a)(b)
(-a)[b]
-a * b
a * -b
(a + b) * c
a + b * c
-(a * b)
a - b - c
a - (b - c)
a // b mod c * d
a // (b mod c) * d
(a + b) - c is d
a - -b
not a
not not a
not a == b
not (a and b)
(not a) == b
a == (not b)
a + (not b)
not a and not b or not c
a or b or c
(a or b) or c
a or (b or c)
a and (b and c)
(a and b) and c
a and b or c and d
(a or b) and (c or d)
a < b < c
(a < b) < c
a < (b < c)
a not in b is not c is d in e
a <= b + c >= d != -e
a if b else c
a if b else c if d else e
(a if b else c) if d else e
a if (b if c else d) else e
a or b if c or d else e or f
a if b else lambda: c
(lambda: a) if (lambda: b) else lambda: c
(lambda: a) or (lambda: b)
(lambda: a) and (a if b else c)
not (lambda: a)
-(lambda: a)
(lambda: a) + (lambda: b)
(a if b else c) * (d if e else f)
(lambda: a) == (lambda: b)
lambda: a
lambda: lambda: a
lambda a: b
lambda a, b=1: c
lambda a=lambda: b, c=(d, e): f
lambda a=not b, c=-d: (e, f)
lambda: a if b else c
lambda: not a
lambda: (a, b)
lambda: ()
lambda: a, b
(lambda: a)()
(lambda: a).b
(a if b else c)[d]
(a, b)[c]
(a,).b
()()
[a][b](c).d
{a: b}[c]
"a".b
1.a
None.a
f()
f(a)
f(a, b)
f((a, b), (c,), ())
f(a=b)
f(a, b=c, d=lambda: e)
f(not a, b=lambda: 1)
f(a=not b, c=(d, e))
f(lambda: a, b if c else d)
f(a == b)
a[:]
a[b:]
a[:b]
a[b:c]
a[::b]
a[b::c]
a[:b:c]
a[b:c:d]
a[not b:not c:not d]
a[lambda: b:lambda: c:lambda: d]
a[b if c else d:-e:(f, g)]
a[not b]
a[lambda: b]
a[b if c else d]
[not a, not b]
{not a: not b}
(not a, not b)[0]
"""
BLOCKS = """
if a:
    b
if a:
    b
elif c:
    d
elif (e, f):
    g
else:
    h
    i
if a:
    b
else:
    if c:
        d
    e
if a:
    b
else:
    pass
    if c:
        d
while (a, b):
    c
while not a:
    b
else:
    c
for a in b:
    c
for a in b, c:
    d
for x in a,:
    x
for x, in ():
    x
for a, b in (c, d), e:
    f
else:
    if g:
        h
for a in lambda: b, c:
    d
def f():
    return
def f(a):
    pass
def f(a, b, c=1, d=(e, f), g=not h):
    global i
    nonlocal j, k
    def m():
        n
class A:
    pass
class A(B):
    a = 1
    b = c, d
    e = f,
    def g(h):
        i
    pass
with a:
    b
with a as b:
    c
with (a, b) as c:
    d
with lambda: a as b:
    c
try:
    a
finally:
    b
try:
    a
except:
    b
try:
    a
except A:
    b
except (A, B) as e:
    c
except lambda: A:
    d
except:
    e
else:
    f
finally:
    g
"""


def written(tree):
    """Return the tree of the written text without lines, or None if the text is refused."""
    try:
        return without_lines(read_tree(print_tree(tree)))
    except SourceError:
        return None


def spare_brackets(text):
    """Return the texts in each of which two round brackets are left out that change nothing."""
    tree = without_lines(read_tree(text))
    found = []
    opened = []
    rows = [0] + [at + 1 for at, sign in enumerate(text) if sign == "\n"]
    for kind, word, line, column in tokens(text):
        at = rows[line - 1] + column - 1
        if (kind, word) == ("sign", "("):
            opened.append(at)
        elif (kind, word) == ("sign", ")"):
            start = opened.pop()
            changed = text[:start] + " " + text[start + 1:at] + " " + text[at + 1:]
            try:
                if without_lines(read_tree(changed)) == tree:
                    found.append(changed)
            except SourceError:
                pass
    return found


class TestPrinting(SourceCase):

    def check_text(self, text):
        """The text is that of its tree."""
        with self.subTest(text=text):
            self.assertEqual(print_tree(read_tree(text)), text)

    def test_example_of_the_interface(self):
        self.assertEqual(print_tree(read_tree("x=((1 , 2),)")), "x = (1, 2),\n")

    def test_empty(self):
        self.assertEqual(print_tree(()), "")
        self.assertEqual(print_tree(read_tree("\n# a\n")), "")

    def test_simple_statements(self):
        for row in WRITTEN.split("\n"):
            # One row has brackets that are spare.
            if row and row != "(a + b) - c is d":
                self.check_text(row + "\n")
        self.assertEqual(print_tree(read_tree("(a + b) - c is d")), "a + b - c is d\n")

    def test_blocks(self):
        self.check_text(BLOCKS[1:])

    def test_each_form_within_blocks(self):
        for row in WRITTEN.strip().split("\n")[:30]:
            self.check_text("while a:\n    if b:\n        " + row + "\n")

    def test_other_spaces_and_brackets(self):
        pairs = (
            ("x=1", "x = 1"), ("x = a ,", "x = a,"), ("(x) = (a)", "x = a"), ("[x,y]", None), ("(x,y) = (a,b)", "x, y = a, b"),
            ("((a))", "a"), ("((a),)", "a,"), ("f( a , )", "f(a)"), ("[a,]", "[a]"), ("{a : b ,}", "{a: b}"),
            ("'a'", '"a"'), ("'a\"\\''", '"a\\"\'"'), ("a[(b, c)]", "a[b, c]"), ("a[b : c]", "a[b:c]"),
            ("a[b : c : ]", "a[b:c]"), ("a[ : : ]", "a[:]"), ("a[::None]", "a[::None]"), ("x+=(a,b)", "x += a, b"),
            ("return (a)", "return a"), ("return(a,)", "return a,"), ("x = yield (a, b)", "x = yield a, b"),
            ("- - a", "--a"), ("- (a)", "-a"), ("not(a)", "not a"), ("not(not(a))", "not not a"),
            ("(a*b)+c", "a * b + c"), ("(a//b)//c", "a // b // c"), ("lambda  a , b = 1 :body", "lambda a, b=1: body"),
            ("lambda:body", "lambda: body"), ("lambda a,:a", "lambda a: a"), ("del(a)", "del a"),
            ("00", None), ("0", "0"), ("(a if b else c)", "a if b else c"), ("a if b else (c if d else e)",
                                                                             "a if b else c if d else e"),
            ("[a for(b)in c]", None), ("[a for b in(c)]", "[a for b in c]"), ("global a,b", "global a, b"),
            ("a\\\nb", None), ("raise(a)from(b)", "raise a from b"), ("x=a#b", "x = a"), ("(\na\n)", "a"),
            ("a if b else(lambda:c)", "a if b else lambda: c"), ("(a<b)and(c)", "a < b and c"),
            ("not (a<b)", "not a < b"), ("f((a))", "f(a)"), ("f(a=(b))", "f(a=b)"), ("a.b . c", "a.b.c"),
        )
        for text, wanted in pairs:
            with self.subTest(text=text):
                if wanted is None:
                    with self.assertRaises((SourceError, AssertionError)):
                        self.assertEqual(print_tree(read_tree(text)), text + "\n")
                else:
                    self.assertEqual(print_tree(read_tree(text)), wanted + "\n")

    def test_elif(self):
        nested = "if a:\n  b\nelse:\n if c:\n  d\n else:\n  if e:\n   f\n  else:\n   g"
        self.assertEqual(print_tree(read_tree(nested)), "if a:\n    b\nelif c:\n    d\nelif e:\n    f\nelse:\n    g\n")
        # Only the else part of an "if" is written so.
        self.check_text("while a:\n    b\nelse:\n    if c:\n        d\n")
        self.check_text("for a in b:\n    b\nelse:\n    if c:\n        d\n")
        self.check_text("try:\n    a\nexcept:\n    b\nelse:\n    if c:\n        d\n")

    def test_each_operator_within_each_other(self):
        operators = ["+", "-", "*", "//", "mod", "==", "<", "in", "not in", "is", "is not", "and", "or"]
        for outer in operators:
            for inner in operators:
                for text in ("(a {0} b) {1} c", "a {1} (b {0} c)", "-(a {0} b) {1} c", "not (a {0} b) {1} c",
                             "a {1} (not b {0} c)", "a {1} (-b {0} c)", "(not a) {0} b {1} c", "(-a) {0} b {1} c"):
                    tree = read_tree(text.format(inner, outer))
                    self.check_tree(tree)

    def check_tree(self, tree):
        """The written text has the same tree, is written the same again, and has no bracket that it does not need."""
        text = print_tree(tree)
        with self.subTest(text=text):
            again = read_tree(text)
            self.assert_same(without_lines(again), without_lines(tree))
            self.assertEqual(print_tree(again), text)
            self.assertEqual(spare_brackets(text), [])
            self.check_spaces(text)

    def check_spaces(self, text):
        """No space stands where none may stand, whatever the tree."""
        inside = False
        for at, sign in enumerate(text):
            if sign == '"' and text[at - 1] != "\\":
                inside = not inside
            pair = text[at:at + 2]
            before = text[:at].split("\n")[-1]
            if not inside and before.strip():
                self.assertNotIn(pair, ("  ", " ,", " )", " ]", " }", " \n", " :", "( ", "[ ", "{ ", " ."), text)

    def test_random_trees(self):
        rng = random.Random(16)
        read = 0
        for turn in range(3000):
            maker = TreeMaker(rng)
            tree = (maker.statement(turn % 4),)
            if written(tree) is None:
                continue
            self.assert_same(written(tree), tree)
            if turn % 4 < 3:
                self.check_tree(tree)
            read += 1
        self.assertGreater(read, 1500)

    def test_random_texts(self):
        rng = random.Random(61)
        maker = test_grammar.TestGrammar("test_trees")
        maker.grammar = test_grammar.Grammar(test_grammar.GRAMMAR)
        read = 0
        for _ in range(800):
            text = maker.random_text(rng, 0)
            try:
                tree = read_tree(text)
            except SourceError:
                continue
            again = written(tree)
            if again is not None:
                self.assert_same(again, without_lines(tree))
                self.assertEqual(print_tree(read_tree(print_tree(tree))), print_tree(tree))
                read += 1
        self.assertGreater(read, 300)

    def test_forms(self):
        for form in test_grammar.FORMS:
            self.check_tree(read_tree(form))

    def test_lines_are_not_looked_at(self):
        tree = read_tree(BLOCKS)
        self.assertNotEqual(tree, without_lines(tree))
        self.assertEqual(print_tree(without_lines(tree)), print_tree(tree))

    def test_the_tree_is_not_changed(self):
        tree = read_tree(BLOCKS)
        print_tree(tree)
        without_lines(tree)
        self.assert_same(tree, read_tree(BLOCKS))

    def test_depth(self):
        long = "x = " + " + ".join(["a"] * 58) + "\n"
        self.assertEqual(print_tree(read_tree("x = (" + long[4:-1].replace(" + ", "+\n") + ")")), long)
        self.check_text("x = a" + ".b" * 57 + "\n")
        self.check_text("x = " + "(lambda: " * 9 + "a" + ")()" * 9 + "\n")
        chain = "if a:\n    b\n" + "elif c:\n    d\n" * 20
        self.check_text(chain)
        deep = "\n"
        for level in range(10):
            margin = " " * (9 - level)
            rows = ["if a:", " b"] + ["elif c:", " d"] * 19 + ["else:"]
            deep = "".join([margin + row + "\n" for row in rows]) + (deep if level else " " * 10 + "e\n")
        tree = read_tree(deep)
        text = print_tree(tree)
        self.assertEqual(text.count("elif"), 199)
        self.assertEqual(without_lines(tree)[0][1], 0)


class TestWithoutLines(SourceCase):

    def test_each_statement(self):
        for form in test_grammar.FORMS:
            self.check_lines(read_tree("\n\n" + form))
        self.check_lines(read_tree("if a:\n def f():\n  while b:\n   try:\n    for c in d:\n     with e:\n      class A:\n"
                                   "       def g():\n        if h:\n         i\n        elif j:\n         k\n   except:\n    l"))

    def check_lines(self, tree):
        """Only lines are 0, and all of them are."""
        bare = without_lines(tree)
        self.compare(bare, tree, "block")

    def compare(self, bare, tree, place):
        self.assertIsInstance(bare, tuple)
        self.assertEqual(len(bare), len(tree))
        for one, other in zip(bare, tree):
            if isinstance(other, tuple) and other and isinstance(other[0], str) and len(other) > 1 and \
                    isinstance(other[1], int) and not isinstance(other[1], bool) and other[0] != "number":
                self.assertEqual((one[0], one[1]), (other[0], 0))
                self.assertGreater(other[1], 0)
                self.compare(one[2:], other[2:], "fields")
            elif isinstance(other, tuple) and other and isinstance(other[0], int):
                # A clause.
                self.assertEqual(one[0], 0)
                self.assertGreater(other[0], 0)
                self.compare(one[1:], other[1:], "fields")
            elif isinstance(other, tuple):
                self.compare(one, other, "fields")
            else:
                self.assertEqual(repr(one), repr(other))

    def test_examples(self):
        self.assert_same(without_lines(read_tree("\nx")), (("expr", 0, name("x")),))
        self.assert_same(without_lines(()), ())
        tree = read_tree("try:\n a\nexcept b as c:\n d\nexcept:\n e\nelse:\n f\nfinally:\n g")
        self.assert_same(without_lines(tree), (
            ("try", 0, (("expr", 0, name("a")),),
             ((0, name("b"), "c", (("expr", 0, name("d")),)), (0, None, None, (("expr", 0, name("e")),))),
             (("expr", 0, name("f")),), (("expr", 0, name("g")),)),))


if __name__ == "__main__":
    unittest.main()
