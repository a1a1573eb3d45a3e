"""Points 11 and 14: the expressions of the grammar and their trees."""

import unittest

from likerun.errors import BadSyntax
from likerun.trees import read_tree
from tests.helpers import SourceCase, expression, name, number

A, B, C, D, E = [name(word) for word in "abcde"]
NONE = ("none",)
BINARY = ("+", "-", "*", "//", "mod")
COMPARING = ("==", "!=", "<", "<=", ">", ">=", "in", "not in", "is", "is not")


def call(function, *arguments, **named):
    return ("call", function, arguments, tuple(named.items()))


class ExpressionCase(SourceCase):

    def reads(self, text, tree):
        with self.subTest(text=text):
            self.assert_same(expression(text), tree)

    def refused(self, text, column, line=1):
        self.assert_refused(read_tree, text, BadSyntax, line, column)


class TestAtoms(ExpressionCase):

    def test_plain_atoms(self):
        self.reads("a", A)
        self.reads("0", number(0))
        self.reads("9" * 40, number(10 ** 40 - 1))
        self.reads("'a b'", ("text", "a b"))
        self.reads("''", ("text", ""))
        self.reads("None", NONE)
        self.reads("True", ("truth", True))
        self.reads("False", ("truth", False))

    def test_texts_that_look_like_signs(self):
        self.reads("'('", ("text", "("))
        self.reads("'if'", ("text", "if"))
        self.reads("f('not', '-')", call(name("f"), ("text", "not"), ("text", "-")))
        self.reads("['for']", ("list", (("text", "for"),)))

    def test_two_texts_are_not_joined(self):
        self.refused("'a' 'b'", 5)
        self.refused("x = 'a''b'", 8)
        self.refused("f('a'\n'b')", 1, line=2)

    def test_round_brackets(self):
        self.reads("()", ("tuple", ()))
        self.reads("( )", ("tuple", ()))
        self.reads("(a)", A)
        self.reads("((a))", A)
        self.reads("(a,)", ("tuple", (A,)))
        self.reads("(a, b)", ("tuple", (A, B)))
        self.reads("(a, b,)", ("tuple", (A, B)))
        self.reads("((a, b), c)", ("tuple", (("tuple", (A, B)), C)))
        self.reads("((),)", ("tuple", (("tuple", ()),)))
        self.refused("(,)", 2)
        self.refused("(a,,)", 4)
        self.refused("(a b)", 4)
        self.refused("(a for a in b)", 4)
        self.refused("(yield)", 2)
        self.refused("(a = b)", 4)

    def test_exprs(self):
        self.reads("a,", ("tuple", (A,)))
        self.reads("a, b", ("tuple", (A, B)))
        self.reads("a, b, c,", ("tuple", (A, B, C)))
        self.reads("(a, b), c", ("tuple", (("tuple", (A, B)), C)))
        self.reads("a, lambda: b, not c, -d, [], {}", ("tuple", (
            A, ("lambda", (), B), ("unary", "not", C), ("unary", "-", D), ("list", ()), ("dict", ()))))
        self.reads("a, None, True, False, 'b', 1", ("tuple", (
            A, NONE, ("truth", True), ("truth", False), ("text", "b"), number(1))))
        self.refused(",", 1)
        self.refused("a,,", 3)
        self.refused("a, b c", 6)
        self.refused("a, *b", 4)
        self.refused("a, yield", 4)

    def test_lists(self):
        self.reads("[]", ("list", ()))
        self.reads("[a]", ("list", (A,)))
        self.reads("[a,]", ("list", (A,)))
        self.reads("[a, b]", ("list", (A, B)))
        self.reads("[a, b,]", ("list", (A, B)))
        self.reads("[(a, b)]", ("list", (("tuple", (A, B)),)))
        self.reads("[[], [a]]", ("list", (("list", ()), ("list", (A,)))))
        self.refused("[,]", 2)
        self.refused("[a,,]", 4)
        self.refused("[a b]", 4)
        self.refused("[a: b]", 3)

    def test_dicts(self):
        self.reads("{}", ("dict", ()))
        self.reads("{a: b}", ("dict", ((A, B),)))
        self.reads("{a: b,}", ("dict", ((A, B),)))
        self.reads("{a: b, 1: 'c'}", ("dict", ((A, B), (number(1), ("text", "c")))))
        self.reads("{a: b, c: d,}", ("dict", ((A, B), (C, D))))
        self.reads("{lambda: a: b}", ("dict", ((("lambda", (), A), B),)))
        self.reads("{a: lambda: b}", ("dict", ((A, ("lambda", (), B)),)))
        self.reads("{a if b else c: d}", ("dict", ((("choose", B, A, C), D),)))
        self.reads("{(): {}}", ("dict", ((("tuple", ()), ("dict", ())),)))
        self.refused("{,}", 2)
        self.refused("{a}", 3)
        self.refused("{a:}", 4)
        self.refused("{a, b}", 3)
        self.refused("{a: b: c}", 6)
        self.refused("{a: b, c}", 9)
        self.refused("{a: b c: d}", 7)
        self.refused("{a: b,,}", 7)
        self.refused("{a: b for a in c}", 7)


class TestOperators(ExpressionCase):

    def test_unary(self):
        self.reads("-a", ("unary", "-", A))
        self.reads("--a", ("unary", "-", ("unary", "-", A)))
        self.reads("not a", ("unary", "not", A))
        self.reads("not not a", ("unary", "not", ("unary", "not", A)))
        self.reads("-1", ("unary", "-", number(1)))
        self.reads("not -a", ("unary", "not", ("unary", "-", A)))
        self.reads("-a.b", ("unary", "-", ("attribute", A, "b")))
        self.reads("-a(b)[c]", ("unary", "-", ("item", call(A, B), C)))
        self.reads("(-a).b", ("attribute", ("unary", "-", A), "b"))
        self.refused("+a", 1)
        self.refused("-not a", 2)
        self.refused("- -", 4)
        self.refused("not", 4)
        self.refused("not not", 8)

    def test_binary(self):
        for op in BINARY:
            self.reads("a " + op + " b", ("binary", op, A, B))
            self.refused("a " + op, 3 + len(op))
            self.refused("a " + op + " not b", 4 + len(op))
            self.refused("a " + op + " lambda: b", 4 + len(op))
            if op != "-":
                self.refused(op + " a", 1)
                self.refused("a " + op + " " + op + " b", 4 + len(op))

    def test_grouping_from_the_left(self):
        for one in ("+", "-"):
            for two in ("+", "-"):
                self.reads("a " + one + " b " + two + " c", ("binary", two, ("binary", one, A, B), C))
        for one in ("*", "//", "mod"):
            for two in ("*", "//", "mod"):
                self.reads("a " + one + " b " + two + " c", ("binary", two, ("binary", one, A, B), C))

    def test_products_within_sums(self):
        for low in ("+", "-"):
            for high in ("*", "//", "mod"):
                self.reads("a " + low + " b " + high + " c", ("binary", low, A, ("binary", high, B, C)))
                self.reads("a " + high + " b " + low + " c", ("binary", low, ("binary", high, A, B), C))
                self.reads("a " + high + " (b " + low + " c)", ("binary", high, A, ("binary", low, B, C)))
        self.reads("a * b + c * d - e", ("binary", "-", ("binary", "+", ("binary", "*", A, B), (
            "binary", "*", C, D)), E))

    def test_minus_within_operators(self):
        self.reads("a - -b", ("binary", "-", A, ("unary", "-", B)))
        self.reads("-a * -b", ("binary", "*", ("unary", "-", A), ("unary", "-", B)))
        self.reads("-(a * b)", ("unary", "-", ("binary", "*", A, B)))
        self.reads("a--b", ("binary", "-", A, ("unary", "-", B)))

    def test_comparing(self):
        for op in COMPARING:
            self.reads("a " + op + " b", ("compare", A, ((op, B),)))
            self.refused("a " + op, 3 + len(op))
            self.refused("a " + op + " lambda: b", 4 + len(op))
        self.reads("(a is\nnot b)", ("compare", A, (("is not", B),)))
        self.reads("(a not\nin b)", ("compare", A, (("not in", B),)))

    def test_chains(self):
        self.reads("a < b < c", ("compare", A, (("<", B), ("<", C))))
        self.reads("a == b != c in d", ("compare", A, (("==", B), ("!=", C), ("in", D))))
        self.reads("a is not b not in c is d", ("compare", A, (("is not", B), ("not in", C), ("is", D))))
        self.reads("(a < b) < c", ("compare", ("compare", A, (("<", B),)), (("<", C),)))
        self.reads("a < (b < c)", ("compare", A, (("<", ("compare", B, (("<", C),))),)))
        self.reads("a + b <= c * d >= -e", ("compare", ("binary", "+", A, B), (
            ("<=", ("binary", "*", C, D)), (">=", ("unary", "-", E)))))

    def test_wrong_comparisons(self):
        self.refused("a not b", 7)
        self.refused("a not", 6)
        self.refused("a not not in b", 7)
        self.refused("a is not not b", 10)
        self.refused("a not is b", 7)
        self.refused("a < not b", 5)
        self.refused("a == == b", 6)
        self.refused("a in in b", 6)
        self.refused("a is in b", 6)

    def test_not_around_comparisons(self):
        self.reads("not a == b", ("unary", "not", ("compare", A, (("==", B),))))
        self.reads("not a in b", ("unary", "not", ("compare", A, (("in", B),))))
        self.reads("(not a) == b", ("compare", ("unary", "not", A), (("==", B),)))
        self.reads("a == (not b)", ("compare", A, (("==", ("unary", "not", B)),)))

    def test_and_or(self):
        self.reads("a and b", ("and", (A, B)))
        self.reads("a and b and c", ("and", (A, B, C)))
        self.reads("a or b", ("or", (A, B)))
        self.reads("a or b or c", ("or", (A, B, C)))
        self.reads("(a and b) and c", ("and", (("and", (A, B)), C)))
        self.reads("a and (b and c)", ("and", (A, ("and", (B, C)))))
        self.reads("(a or b) or c", ("or", (("or", (A, B)), C)))
        self.reads("a or b and c or d", ("or", (A, ("and", (B, C)), D)))
        self.reads("a and b or c and d", ("or", (("and", (A, B)), ("and", (C, D)))))
        self.reads("(a or b) and c", ("and", (("or", (A, B)), C)))
        self.reads("not a and not b", ("and", (("unary", "not", A), ("unary", "not", B))))
        self.reads("not (a and b)", ("unary", "not", ("and", (A, B))))
        self.refused("a and", 6)
        self.refused("and a", 1)
        self.refused("a or or b", 6)
        self.refused("a or lambda: b", 6)
        self.refused("a and and b", 7)

    def test_choice(self):
        self.reads("a if b else c", ("choose", B, A, C))
        self.reads("a if b else c if d else e", ("choose", B, A, ("choose", D, C, E)))
        self.reads("(a if b else c) if d else e", ("choose", D, ("choose", B, A, C), E))
        self.reads("a if (b if c else d) else e", ("choose", ("choose", C, B, D), A, E))
        self.reads("a or b if c or d else e or a", ("choose", ("or", (C, D)), ("or", (A, B)), ("or", (E, A))))
        self.reads("not a if not b else not c", ("choose", ("unary", "not", B), ("unary", "not", A), (
            "unary", "not", C)))
        self.reads("a if b else lambda: c", ("choose", B, A, ("lambda", (), C)))
        self.reads("a if b else c, d", ("tuple", (("choose", B, A, C), D)))
        self.refused("a if b", 7)
        self.refused("a if b, c", 7)
        self.refused("a if", 5)
        self.refused("a if b else", 12)
        self.refused("a if b if c else d else e", 8)
        self.refused("a if lambda: b else c", 6)
        self.refused("a else b", 3)
        self.refused("lambda: a else b", 11)


class TestLambda(ExpressionCase):

    def test_without_parameters(self):
        self.reads("lambda: a", ("lambda", (), A))
        self.reads("lambda: lambda: a", ("lambda", (), ("lambda", (), A)))
        self.reads("lambda: a, b", ("tuple", (("lambda", (), A), B)))
        self.reads("lambda: (a, b)", ("lambda", (), ("tuple", (A, B))))

    def test_parameters(self):
        self.reads("lambda a: b", ("lambda", (("a", None),), B))
        self.reads("lambda a,: b", ("lambda", (("a", None),), B))
        self.reads("lambda a, b: c", ("lambda", (("a", None), ("b", None)), C))
        self.reads("lambda a, b,: c", ("lambda", (("a", None), ("b", None)), C))
        self.reads("lambda a=1: b", ("lambda", (("a", number(1)),), B))
        self.reads("lambda a, b=None, c=d if e else a: b", ("lambda", (
            ("a", None), ("b", NONE), ("c", ("choose", E, D, A))), B))
        self.reads("lambda a=lambda: b: c", ("lambda", (("a", ("lambda", (), B)),), C))
        self.reads("lambda a=(): b", ("lambda", (("a", ("tuple", ())),), B))

    def test_body(self):
        self.reads("lambda: a if b else c", ("lambda", (), ("choose", B, A, C)))
        self.reads("(lambda: a) if b else c", ("choose", B, ("lambda", (), A), C))
        self.reads("lambda: a or b", ("lambda", (), ("or", (A, B))))
        self.reads("(lambda: a)(b)", call(("lambda", (), A), B))
        self.reads("a[lambda: b : c]", ("slice", A, ("lambda", (), B), C, None))
        self.reads("a[lambda b: c]", ("item", A, ("lambda", (("b", None),), C)))

    def test_wrong_forms(self):
        self.refused("lambda", 7)
        self.refused("lambda:", 8)
        self.refused("lambda ,: a", 8)
        self.refused("lambda a", 9)
        self.refused("lambda a b: c", 10)
        self.refused("lambda a,, b: c", 10)
        self.refused("lambda (a): b", 8)
        self.refused("lambda a.b: c", 9)
        self.refused("lambda 1: a", 8)
        self.refused("lambda a=: b", 10)
        self.refused("lambda None: b", 8)
        self.refused("lambda a=b, c=d, : yield", 20)
        self.refused("not lambda: a", 5)
        self.refused("-lambda: a", 2)
        self.refused("lambda: a = b", 11)
        self.refused("lambda: a: b", 10)

    def test_default_ahead_of_none(self):
        self.refused("lambda a=1, b: c", 14)
        self.refused("lambda a=1, b, c=2: d", 14)
        self.refused("lambda a, b=1, c, : d", 17)
        self.refused("lambda a=1, b c: d", 15)
        self.refused("lambda a=1, b", 14)
        self.reads("lambda a, b=1, c=2: d", ("lambda", (("a", None), ("b", number(1)), ("c", number(2))), D))


class TestPostfix(ExpressionCase):

    def test_attributes(self):
        self.reads("a.b", ("attribute", A, "b"))
        self.reads("a.b.c", ("attribute", ("attribute", A, "b"), "c"))
        self.reads("'x'.b", ("attribute", ("text", "x"), "b"))
        self.reads("1 .b", ("attribute", number(1), "b"))
        self.reads("None.b", ("attribute", NONE, "b"))
        self.reads("().b", ("attribute", ("tuple", ()), "b"))
        self.reads("[].b", ("attribute", ("list", ()), "b"))
        self.reads("{}.b", ("attribute", ("dict", ()), "b"))
        self.refused("a.", 3)
        self.refused("a.1", 3)
        self.refused("a.if", 3)
        self.refused("a.'b'", 3)
        self.refused("a..b", 3)
        self.refused(".a", 1)
        self.refused("a.(b)", 3)

    def test_items(self):
        self.reads("a[b]", ("item", A, B))
        self.reads("a[b][c]", ("item", ("item", A, B), C))
        self.reads("a[b,]", ("item", A, ("tuple", (B,))))
        self.reads("a[b, c]", ("item", A, ("tuple", (B, C))))
        self.reads("a[b, c,]", ("item", A, ("tuple", (B, C))))
        self.reads("a[(b, c)]", ("item", A, ("tuple", (B, C))))
        self.reads("a[()]", ("item", A, ("tuple", ())))
        self.reads("a[b if c else d]", ("item", A, ("choose", C, B, D)))
        self.reads("[a][b]", ("item", ("list", (A,)), B))
        self.refused("a[]", 3)
        self.refused("a[,]", 3)
        self.refused("a[b c]", 5)
        self.refused("a[b,,]", 5)
        self.refused("a[b=c]", 4)
        self.refused("a[b for b in c]", 5)
        self.refused("a[yield]", 3)

    def test_slices(self):
        parts = (None, B)
        for low in parts:
            for high in parts:
                for step in parts:
                    low_text, high_text, step_text = ["" if part is None else "b" for part in (low, high, step)]
                    self.reads("a[" + low_text + ":" + high_text + ":" + step_text + "]", (
                        "slice", A, low, high, step))
                self.reads("a[" + low_text + ":" + high_text + "]", ("slice", A, low, high, None))
        self.reads("a[b:c:d]", ("slice", A, B, C, D))
        self.reads("a[-1::-2]", ("slice", A, ("unary", "-", number(1)), None, ("unary", "-", number(2))))
        self.reads("a[b if c else d:e]", ("slice", A, ("choose", C, B, D), E, None))
        self.reads("a[:][b]", ("item", ("slice", A, None, None, None), B))

    def test_wrong_slices(self):
        self.refused("a[b:c:d:e]", 8)
        self.refused("a[:::]", 5)
        self.refused("a[b:c,]", 6)
        self.refused("a[b, c:d]", 7)
        self.refused("a[b,:]", 5)
        self.refused("a[:,]", 4)
        self.refused("a[::,]", 5)
        self.refused("a[b:c d]", 7)
        self.refused("a[b:c:d e]", 9)
        self.refused("[:]", 2)
        self.refused("a[b:=c]", 5)

    def test_calls(self):
        f = name("f")
        self.reads("f()", call(f))
        self.reads("f(a)", call(f, A))
        self.reads("f(a,)", call(f, A))
        self.reads("f(a, b)", call(f, A, B))
        self.reads("f(a, b,)", call(f, A, B))
        self.reads("f((a, b))", call(f, ("tuple", (A, B))))
        self.reads("f(a)(b)", call(call(f, A), B))
        self.reads("f(lambda a: b, c)", call(f, ("lambda", (("a", None),), B), C))
        self.reads("f(a if b else c)", call(f, ("choose", B, A, C)))
        self.refused("f(,)", 3)
        self.refused("f(a,,)", 5)
        self.refused("f(a b)", 5)
        self.refused("f(a for a in b)", 5)
        self.refused("f(*a)", 3)
        self.refused("f(yield)", 3)
        self.refused("f(a:b)", 4)

    def test_named_arguments(self):
        f = name("f")
        self.reads("f(a=b)", call(f, a=B))
        self.reads("f(a=b,)", call(f, a=B))
        self.reads("f(a, b=c, d=e)", call(f, A, b=C, d=E))
        self.reads("f(a=lambda: b)", call(f, a=("lambda", (), B)))
        self.reads("f(a=b == c)", call(f, a=("compare", B, (("==", C),))))
        self.reads("f(a == b)", call(f, ("compare", A, (("==", B),))))
        self.reads("f(a=1, a=2)", ("call", f, (), (("a", number(1)), ("a", number(2)))))
        self.refused("f((a)=1)", 6)
        self.refused("f(a.b=1)", 6)
        self.refused("f(a=)", 5)
        self.refused("f(=a)", 3)
        self.refused("f(1=a)", 4)
        self.refused("f('a'=b)", 6)
        self.refused("f(None=a)", 7)
        self.refused("f(not a=b)", 8)
        self.refused("f(a=b=c)", 6)
        self.refused("f(a, b.c=1)", 9)
        self.refused("f(if=a)", 3)
        self.refused("f(a=yield)", 5)
        self.refused("f(a=b for b in c)", 7)

    def test_arguments_behind_named_ones(self):
        self.refused("f(a=1, b + c)", 13)
        self.refused("f(a=1, b)", 9)
        self.refused("f(a=1, b, c)", 9)
        self.refused("f(a=1, b, c=2)", 9)
        self.refused("f(b, a=1, (c)\n)", 1, line=2)
        self.refused("f(a=1, b c)", 10)
        self.refused("f(a=1, (b)=2)", 11)
        self.refused("f(a=1, g(b=1, c), d)", 16)

    def test_mixed(self):
        self.reads("a.b(c)[d].e", ("attribute", ("item", call(("attribute", A, "b"), C), D), "e"))
        self.reads("-a.b[c](d) + e", ("binary", "+", ("unary", "-", call(("item", ("attribute", A, "b"), C), D)), E))


class TestComprehensions(ExpressionCase):

    def test_comprehensions(self):
        self.reads("[a for b in c]", ("comp", A, B, C, None))
        self.reads("[a for b in c if d]", ("comp", A, B, C, D))
        self.reads("[a for b, in c]", ("comp", A, ("tuple", (B,)), C, None))
        self.reads("[a for b, c in d]", ("comp", A, ("tuple", (B, C)), D, None))
        self.reads("[a for b, c, in d]", ("comp", A, ("tuple", (B, C)), D, None))
        self.reads("[(a, b) for a in b]", ("comp", ("tuple", (A, B)), A, B, None))
        self.reads("[a if b else c for d in e]", ("comp", ("choose", B, A, C), D, E, None))
        self.reads("[lambda: a for b in c]", ("comp", ("lambda", (), A), B, C, None))
        self.reads("[a for b in c or d if e and a]", ("comp", A, B, ("or", (C, D)), ("and", (E, A))))
        self.reads("[a for b in (c if d else e)]", ("comp", A, B, ("choose", D, C, E), None))
        self.reads("[[a for b in c] for d in e]", ("comp", ("comp", A, B, C, None), D, E, None))
        self.reads("[a for b in [c for d in e]]", ("comp", A, B, ("comp", C, D, E, None), None))
        self.reads("[a in b for c in d in e]", ("comp", ("compare", A, (("in", B),)), C, (
            "compare", D, (("in", E),)), None))
        self.reads("[a for b in not c]", ("comp", A, B, ("unary", "not", C), None))
        self.reads("[a for b in c][0]", ("item", ("comp", A, B, C, None), number(0)))

    def test_wrong_comprehensions(self):
        self.refused("[a for]", 7)
        self.refused("[for a in b]", 2)
        self.refused("[a for 1 in b]", 8)
        self.refused("[a for (b) in c]", 8)
        self.refused("[a for (b, c) in d]", 8)
        self.refused("[a for b.c in d]", 9)
        self.refused("[a for b[0] in d]", 9)
        self.refused("[a for b]", 9)
        self.refused("[a for b c in d]", 10)
        self.refused("[a for b,, c in d]", 10)
        self.refused("[a for b in]", 12)
        self.refused("[a for b in c, d]", 14)
        self.refused("[a for b in c,]", 14)
        self.refused("[a for b in c if d else e]", 20)
        self.refused("[a for b in c if]", 17)
        self.refused("[a for b in c if d if e]", 20)
        self.refused("[a for b in lambda: c]", 13)
        self.refused("[a for b in c if lambda: d]", 18)
        self.refused("[a for b in c for d in e]", 15)
        self.refused("[a, b for a in c]", 7)
        self.refused("[a, for a in c]", 5)
        self.refused("[yield for a in b]", 2)
        self.refused("[a if b for c in d]", 9)


class TestYield(ExpressionCase):

    def test_as_a_statement(self):
        self.reads("yield", ("yield", None))
        self.reads("yield a", ("yield", A))
        self.reads("yield a,", ("yield", ("tuple", (A,))))
        self.reads("yield a, b", ("yield", ("tuple", (A, B))))
        self.reads("yield lambda: a", ("yield", ("lambda", (), A)))

    def test_as_the_right_side(self):
        self.assert_same(read_tree("a = yield"), (("assign", 1, A, ("yield", None)),))
        self.assert_same(read_tree("a, b = yield c,"), (
            ("assign", 1, ("tuple", (A, B)), ("yield", ("tuple", (C,)))),))

    def test_elsewhere(self):
        self.refused("a + yield", 5)
        self.refused("yield yield", 7)
        self.refused("a += yield", 6)
        self.refused("return yield", 8)
        self.refused("lambda: yield", 9)
        self.refused("not yield", 5)
        self.refused("a = yield = b", 11)
        self.refused("yield = a", 7)
        self.refused("yield a = b", 9)
        self.refused("yield a += b", 9)
        self.refused("yield from a", 7)
        self.refused("a = b, yield", 8)
        self.refused("if yield:\n a", 4)


if __name__ == "__main__":
    unittest.main()
