"""Points 11 and 15: the statements of the grammar, their trees and their lines."""

import unittest

from likerun.errors import BadSyntax, SourceError
from likerun.trees import read_tree
from tests.helpers import SourceCase, name, number

A, B, C, D, E = [name(word) for word in "abcde"]
ONE = number(1)


class StatementCase(SourceCase):

    def reads(self, text, *statements):
        with self.subTest(text=text):
            self.assert_same(read_tree(text), statements)

    def refused(self, text, line, column):
        self.assert_refused(read_tree, text, BadSyntax, line, column)


class TestProgram(StatementCase):

    def test_examples_of_the_interface(self):
        self.reads("x = 1 + 2 * y", ("assign", 1, name("x"), (
            "binary", "+", ONE, ("binary", "*", number(2), name("y")))))
        self.refused("1 = x", 1, 3)

    def test_empty_programs(self):
        self.reads("")
        self.reads("\n\n# c\n")
        self.assertIs(type(read_tree("")), tuple)

    def test_several_statements(self):
        self.reads("a\n\n# c\nb\n  # d\nc", ("expr", 1, A), ("expr", 4, B), ("expr", 6, C))

    def test_one_statement_a_line(self):
        self.refused("a b", 1, 3)
        self.refused("pass pass", 1, 6)
        self.refused("a if b else c d", 1, 15)
        self.refused("a = b c", 1, 7)

    def test_a_second_call_gives_an_equal_tree(self):
        text = "if a:\n  b\nelse:\n  c = [1]"
        self.assertEqual(read_tree(text), read_tree(text))

    def test_statements_that_begin_with_no_statement(self):
        for text in ("else:\n a", "elif a:\n b", "except:\n a", "finally:\n a", "as a", "from a", "in a",
                     "is a", "and a", "or a", "mod a", "= a", "+= a", ", a", ": a", ". a", "* a", "< a"):
            self.refused(text, 1, 1)
            self.refused("a\n" + text, 2, 1)


class TestSimple(StatementCase):

    def test_words(self):
        for word in ("pass", "break", "continue"):
            self.reads(word, (word, 1))
            self.reads("a\n\n" + word, ("expr", 1, A), (word, 3))
            self.refused(word + " a", 1, len(word) + 2)
            self.refused(word + ",", 1, len(word) + 1)

    def test_return(self):
        self.reads("return", ("return", 1, None))
        self.reads("return a", ("return", 1, A))
        self.reads("return None", ("return", 1, ("none",)))
        self.reads("return a,", ("return", 1, ("tuple", (A,))))
        self.reads("return a, b", ("return", 1, ("tuple", (A, B))))
        self.reads("return ()", ("return", 1, ("tuple", ())))
        self.reads("\nreturn (\na)", ("return", 2, A))
        self.refused("return = a", 1, 8)
        self.refused("return a = b", 1, 10)
        self.refused("return ,", 1, 8)
        self.refused("return a b", 1, 10)

    def test_raise(self):
        self.reads("raise", ("raise", 1, None, None))
        self.reads("raise a", ("raise", 1, A, None))
        self.reads("raise a from b", ("raise", 1, A, B))
        self.reads("raise a(b) from None", ("raise", 1, ("call", A, (B,), ()), ("none",)))
        self.reads("raise (a, b)", ("raise", 1, ("tuple", (A, B)), None))
        self.reads("\n\nraise a if b else c from lambda: d", (
            "raise", 3, ("choose", B, A, C), ("lambda", (), D)))
        self.refused("raise from a", 1, 7)
        self.refused("raise a, b", 1, 8)
        self.refused("raise a from", 1, 13)
        self.refused("raise a from b, c", 1, 15)
        self.refused("raise a from b from c", 1, 16)
        self.refused("raise a b", 1, 9)

    def test_delete(self):
        self.reads("del a", ("delete", 1, A))
        self.reads("del a.b", ("delete", 1, ("attribute", A, "b")))
        self.reads("del a[b]", ("delete", 1, ("item", A, B)))
        self.reads("del a[b, c]", ("delete", 1, ("item", A, ("tuple", (B, C)))))
        self.reads("del a(b).c", ("delete", 1, ("attribute", ("call", A, (B,), ()), "c")))
        self.reads("\ndel (a)", ("delete", 2, A))
        self.reads("del (\na.b)", ("delete", 1, ("attribute", A, "b")))
        self.refused("del", 1, 4)
        self.refused("del a, b", 1, 6)
        self.refused("del a,", 1, 6)
        self.refused("del a b", 1, 7)
        self.refused("del a = b", 1, 7)

    def test_delete_of_what_is_no_target(self):
        self.refused("del a + b", 1, 10)
        self.refused("del a + b   # c", 1, 10)
        for text in ("1", "'a'", "None", "()", "(a, b)", "(a,)", "[a]", "{}", "a()", "a[b:c]", "a[:]", "-a",
                     "not a", "a == b", "a and b", "a if b else c", "lambda: a", "[a for b in c]"):
            self.refused("del " + text, 1, 5 + len(text))
        self.refused("a\ndel (\na, b\n)", 4, 2)

    def test_declarations(self):
        for word in ("global", "nonlocal"):
            many = len(word)
            self.reads(word + " a", (word, 1, ("a",)))
            self.reads(word + " a, b, a", (word, 1, ("a", "b", "a")))
            self.reads("\n" + word + " a", (word, 2, ("a",)))
            self.refused(word, 1, many + 1)
            self.refused(word + " a,", 1, many + 4)
            self.refused(word + " a b", 1, many + 4)
            self.refused(word + " (a)", 1, many + 2)
            self.refused(word + " a = b", 1, many + 4)
            self.refused(word + " a.b", 1, many + 3)
            self.refused(word + " 1", 1, many + 2)
            self.refused(word + " a, None", 1, many + 5)

    def test_expressions(self):
        self.reads("a", ("expr", 1, A))
        self.reads("a,", ("expr", 1, ("tuple", (A,))))
        self.reads("\n(\na\n)", ("expr", 2, A))
        self.reads("'a'", ("expr", 1, ("text", "a")))
        self.reads("yield a", ("expr", 1, ("yield", A)))


class TestAssignments(StatementCase):

    def test_assign(self):
        self.reads("a = b", ("assign", 1, A, B))
        self.reads("(a) = b", ("assign", 1, A, B))
        self.reads("a.b = c", ("assign", 1, ("attribute", A, "b"), C))
        self.reads("a[b] = c", ("assign", 1, ("item", A, B), C))
        self.reads("a[b, c] = d", ("assign", 1, ("item", A, ("tuple", (B, C))), D))
        self.reads("a().b = c", ("assign", 1, ("attribute", ("call", A, (), ()), "b"), C))
        self.reads("1 .b = c", ("assign", 1, ("attribute", ONE, "b"), C))
        self.reads("(a + b)[c] = d", ("assign", 1, ("item", ("binary", "+", A, B), C), D))
        self.reads("a = b, c", ("assign", 1, A, ("tuple", (B, C))))
        self.reads("a = b,", ("assign", 1, A, ("tuple", (B,))))
        self.reads("a = ()", ("assign", 1, A, ("tuple", ())))
        self.reads("\n\n(\na) = b", ("assign", 3, A, B))

    def test_assign_to_tuples(self):
        self.reads("a, = b", ("assign", 1, ("tuple", (A,)), B))
        self.reads("a, b = c", ("assign", 1, ("tuple", (A, B)), C))
        self.reads("a, b, = c", ("assign", 1, ("tuple", (A, B)), C))
        self.reads("(a, b) = c", ("assign", 1, ("tuple", (A, B)), C))
        self.reads("(a,) = b", ("assign", 1, ("tuple", (A,)), B))
        self.reads("(a), (b) = c", ("assign", 1, ("tuple", (A, B)), C))
        self.reads("a, b.c, d[e] = 1", ("assign", 1, ("tuple", (
            A, ("attribute", B, "c"), ("item", D, E))), ONE))
        self.refused("a, (b, c) = d", 1, 11)
        self.refused("(a, b), = c", 1, 9)
        self.refused("(a,), b = c", 1, 9)
        self.refused("a, b() = c", 1, 8)
        self.refused("a, 1 = b", 1, 6)
        self.refused("a, () = b", 1, 7)
        self.refused("a, b[:] = c", 1, 9)
        self.refused("((a, b)\n,) = c", 2, 4)

    def test_assign_to_what_is_no_target(self):
        for text in ("1", "'a'", "None", "True", "()", "[a]", "[]", "[a, b]", "{}", "{a: b}", "a()", "a[b:c]",
                     "a[::]", "-a", "not a", "a + b", "a == b", "a and b", "a or b", "a if b else c",
                     "lambda: a", "[a for b in c]", "(())", "(a + b)", "a.b()"):
            self.refused(text + " = x", 1, len(text) + 2)
            self.refused("a\n" + text + " = x = ", 2, len(text) + 2)

    def test_wrong_assignments(self):
        self.refused("a =", 1, 4)
        self.refused("= a", 1, 1)
        self.refused("a = b = c", 1, 7)
        self.refused("a = = b", 1, 5)
        self.refused("a, = , b", 1, 6)
        self.refused("a = b += c", 1, 7)
        self.refused("a += b = c", 1, 8)
        self.refused("a = pass", 1, 5)
        self.refused("a = (b = c)", 1, 8)
        self.refused("a: b = c", 1, 2)

    def test_augment(self):
        for sign, op in (("+=", "+"), ("-=", "-"), ("*=", "*"), ("//=", "//")):
            self.reads("a " + sign + " b", ("augment", 1, A, op, B))
            self.reads("(a) " + sign + " b", ("augment", 1, A, op, B))
            self.reads("a.b " + sign + " c", ("augment", 1, ("attribute", A, "b"), op, C))
            self.reads("\na[b] " + sign + " c, d", ("augment", 2, ("item", A, B), op, ("tuple", (C, D))))
            self.reads("a " + sign + " b,", ("augment", 1, A, op, ("tuple", (B,))))
            for text in ("a, b", "(a, b)", "a,", "()", "1", "a()", "a[b:c]", "-a", "a + b", "[a]", "None",
                         "a if b else c", "lambda: a", "'a'", "not a"):
                self.refused(text + " " + sign + " c", 1, len(text) + 2)
            self.refused("a " + sign, 1, 3 + len(sign))
            self.refused("a " + sign + " b " + sign + " c", 1, 6 + len(sign))
            self.refused("a " + sign + " yield", 1, 4 + len(sign))
            self.refused(sign + " a", 1, 1)
        self.refused("a mod= b", 1, 6)
        self.refused("a or= b", 1, 5)


class TestBlocks(StatementCase):

    def test_blocks(self):
        self.reads("while a:\n  b\n  c", ("while", 1, A, (("expr", 2, B), ("expr", 3, C)), ()))
        self.reads("while a:\n  while b:\n    c\n  d\ne", (
            "while", 1, A, (("while", 2, B, (("expr", 3, C),), ()), ("expr", 4, D)), ()), ("expr", 5, E))

    def test_lines_behind_empty_rows_and_comments(self):
        self.reads("\n# c\nwhile (a\n  and b):   # d\n\n  # e\n\n  c = [\n\n 1]\n\n  d\n\nelse:\n\n  e\n", (
            "while", 3, ("and", (A, B)), (("assign", 8, C, ("list", (ONE,))), ("expr", 12, D)), (
                ("expr", 16, E),)))

    def test_wrong_blocks(self):
        for head in ("if a", "while a", "for a in b", "def f()", "class f", "with a", "with a as b", "try"):
            many = len(head)
            self.refused(head, 1, many + 1)
            self.refused(head + "\n  a", 1, many + 1)
            self.refused(head + ":", 2, 1)
            self.refused(head + ":\na", 2, 1)
            self.refused(head + ": a", 1, many + 3)
            self.refused(head + ": pass", 1, many + 3)
            self.refused(head + "::\n  a", 1, many + 2)
            self.refused("a\n\n" + head + ":\n\n# c\na", 6, 1)
            self.refused("while a:\n  " + head + ":\n  a", 3, 3)
            self.refused("while a:\n  " + head + ":\na", 3, 1)

    def test_indented_line_where_no_block_is_due(self):
        self.refused("a\n  b", 2, 3)
        self.refused("if a:\n  b\n    c", 3, 5)
        self.refused("if a:\n  b\n\n\n      c\nd", 5, 7)
        self.refused("try:\n  a\nfinally:\n  b\n    c", 5, 5)


class TestConditions(StatementCase):

    def test_if(self):
        self.reads("if a:\n b", ("if", 1, A, (("expr", 2, B),), ()))
        self.reads("if a:\n b\nelse:\n c", ("if", 1, A, (("expr", 2, B),), (("expr", 4, C),)))
        self.reads("if a if b else c:\n d", ("if", 1, ("choose", B, A, C), (("expr", 2, D),), ()))
        self.reads("if lambda: a:\n b", ("if", 1, ("lambda", (), A), (("expr", 2, B),), ()))
        self.reads("if (a, b):\n c", ("if", 1, ("tuple", (A, B)), (("expr", 2, C),), ()))
        self.refused("if:\n a", 1, 3)
        self.refused("if a, b:\n c", 1, 5)
        self.refused("if a = b:\n c", 1, 6)
        self.refused("if a:\n b\nelse a:\n c", 3, 6)
        self.refused("if a:\n b\nelse:\n c\nelse:\n d", 5, 1)
        self.refused("if a:\n b\nelse:\n c\nelif d:\n e", 5, 1)
        self.refused("if a:\n b\nelse if c:\n d", 3, 6)

    def test_elif(self):
        self.reads("if a:\n b\nelif c:\n d", ("if", 1, A, (("expr", 2, B),), (
            ("if", 3, C, (("expr", 4, D),), ()),)))
        self.reads("if a:\n b\n\n# c\nelif (c\n):\n d\nelif e:\n a\nelse:\n b", (
            "if", 1, A, (("expr", 2, B),), (
                ("if", 5, C, (("expr", 7, D),), (
                    ("if", 8, E, (("expr", 9, A),), (("expr", 11, B),)),)),)))
        self.reads("if a:\n b\nelse:\n if c:\n  d", ("if", 1, A, (("expr", 2, B),), (
            ("if", 4, C, (("expr", 5, D),), ()),)))
        self.refused("if a:\n b\nelif:\n c", 3, 5)
        self.refused("if a:\n b\nelif c, d:\n e", 3, 7)
        self.refused("while a:\n b\nelif c:\n d", 3, 1)

    def test_if_in_blocks(self):
        self.reads("if a:\n if b:\n  c\n else:\n  d\nelif e:\n a", ("if", 1, A, (
            ("if", 2, B, (("expr", 3, C),), (("expr", 5, D),)),), (("if", 6, E, (("expr", 7, A),), ()),)))


class TestLoops(StatementCase):

    def test_while(self):
        self.reads("while a:\n b", ("while", 1, A, (("expr", 2, B),), ()))
        self.reads("while a:\n b\nelse:\n c", ("while", 1, A, (("expr", 2, B),), (("expr", 4, C),)))
        self.refused("while:\n a", 1, 6)
        self.refused("while a, b:\n c", 1, 8)
        self.refused("while a:\n b\nelse:\n c\nelse:\n d", 5, 1)

    def test_for(self):
        body = (("expr", 2, D),)
        self.reads("for a in b:\n d", ("for", 1, A, B, body, ()))
        self.reads("for a in b:\n d\nelse:\n e", ("for", 1, A, B, body, (("expr", 4, E),)))
        self.reads("for a, in b:\n d", ("for", 1, ("tuple", (A,)), B, body, ()))
        self.reads("for a, b in c:\n d", ("for", 1, ("tuple", (A, B)), C, body, ()))
        self.reads("for a, b, in c:\n d", ("for", 1, ("tuple", (A, B)), C, body, ()))
        self.reads("for a in b, c:\n d", ("for", 1, A, ("tuple", (B, C)), body, ()))
        self.reads("for a in b,:\n d", ("for", 1, A, ("tuple", (B,)), body, ()))
        self.reads("for a in b in c:\n d", ("for", 1, A, ("compare", B, (("in", C),)), body, ()))
        self.reads("for a in lambda: b:\n d", ("for", 1, A, ("lambda", (), B), body, ()))
        self.reads("for a in b if c else e:\n d", ("for", 1, A, ("choose", C, B, E), body, ()))

    def test_wrong_for(self):
        self.refused("for:\n a", 1, 4)
        self.refused("for in a:\n b", 1, 5)
        self.refused("for a:\n b", 1, 6)
        self.refused("for a b in c:\n d", 1, 7)
        self.refused("for (a) in b:\n c", 1, 5)
        self.refused("for (a, b) in c:\n d", 1, 5)
        self.refused("for a.b in c:\n d", 1, 6)
        self.refused("for a[0] in c:\n d", 1, 6)
        self.refused("for a,, b in c:\n d", 1, 7)
        self.refused("for a, 1 in c:\n d", 1, 8)
        self.refused("for a in:\n b", 1, 9)
        self.refused("for a in b = c:\n d", 1, 12)
        self.refused("for a in b if c:\n d", 1, 16)
        self.refused("for a not in b:\n c", 1, 7)
        self.refused("for a in b:\n c\nelse:\n d\nelse:\n e", 5, 1)


class TestFunctions(StatementCase):

    def test_def(self):
        body = (("pass", 2),)
        self.reads("def f():\n pass", ("def", 1, "f", (), body))
        self.reads("def f(a):\n pass", ("def", 1, "f", (("a", None),), body))
        self.reads("def f(a,):\n pass", ("def", 1, "f", (("a", None),), body))
        self.reads("def f(a, b):\n pass", ("def", 1, "f", (("a", None), ("b", None)), body))
        self.reads("def f(a, b,):\n pass", ("def", 1, "f", (("a", None), ("b", None)), body))
        self.reads("def f(a, a):\n pass", ("def", 1, "f", (("a", None), ("a", None)), body))
        self.reads("def f(a=1):\n pass", ("def", 1, "f", (("a", ONE),), body))
        self.reads("def f(a, b=None, c=(d, e),):\n pass", ("def", 1, "f", (
            ("a", None), ("b", ("none",)), ("c", ("tuple", (D, E)))), body))
        self.reads("def f(a=lambda b: c, d=e):\n pass", ("def", 1, "f", (
            ("a", ("lambda", (("b", None),), C)), ("d", E)), body))
        self.reads("\ndef f(\n a,\n\n b\n):\n\n pass", ("def", 2, "f", (("a", None), ("b", None)), (
            ("pass", 8),)))

    def test_wrong_def(self):
        self.refused("def", 1, 4)
        self.refused("def (a):\n b", 1, 5)
        self.refused("def if():\n b", 1, 5)
        self.refused("def f:\n a", 1, 6)
        self.refused("def f a:\n b", 1, 7)
        self.refused("def f[a]:\n b", 1, 6)
        self.refused("def f.g(a):\n b", 1, 6)
        self.refused("def f(,):\n a", 1, 7)
        self.refused("def f(a,,):\n b", 1, 9)
        self.refused("def f(a b):\n c", 1, 9)
        self.refused("def f(1):\n a", 1, 7)
        self.refused("def f(a.b):\n c", 1, 8)
        self.refused("def f((a)):\n b", 1, 7)
        self.refused("def f(a=):\n b", 1, 9)
        self.refused("def f(*a):\n b", 1, 7)
        self.refused("def f(a: b):\n c", 1, 8)
        self.refused("def f(a)(b):\n c", 1, 9)
        self.refused("def f(a=b=c):\n d", 1, 10)
        self.refused("def f(a) - b:\n c", 1, 10)

    def test_default_ahead_of_none(self):
        self.refused("def f(a=1, b):\n c", 1, 13)
        self.refused("def f(a=1, b,):\n c", 1, 13)
        self.refused("def f(a=1, b, c=2):\n d", 1, 13)
        self.refused("def f(a, b=1, c\n\n):\n d", 3, 1)
        self.refused("def f(a=1, b c):\n d", 1, 14)
        self.refused("def f(a=None, b):\n c", 1, 16)

    def test_def_in_blocks(self):
        self.reads("def f():\n def g(a):\n  return a\n return g", ("def", 1, "f", (), (
            ("def", 2, "g", (("a", None),), (("return", 3, A),)), ("return", 4, name("g")))))


class TestClasses(StatementCase):

    def test_class(self):
        items = (("pass", 2),)
        self.reads("class A:\n pass", ("class", 1, "A", None, items))
        self.reads("class A(b):\n pass", ("class", 1, "A", B, items))
        self.reads("class A(\nb\n):\n\n pass\n pass", ("class", 1, "A", B, (("pass", 5), ("pass", 6))))

    def test_items(self):
        self.reads("\nclass A:\n a = 1\n\n b = c, d\n # e\n def f(self, a=1):\n  b\n pass\n e = ()\nf", (
            "class", 2, "A", None, (
                ("assign", 3, A, ONE), ("assign", 5, B, ("tuple", (C, D))),
                ("def", 7, "f", (("self", None), ("a", ONE)), (("expr", 8, B),)),
                ("pass", 9), ("assign", 10, E, ("tuple", ())))), ("expr", 11, name("f")))
        self.reads("class A:\n a = b,", ("class", 1, "A", None, (("assign", 2, A, ("tuple", (B,))),)))
        self.reads("class A:\n a = 1\n a = lambda: b", ("class", 1, "A", None, (
            ("assign", 2, A, ONE), ("assign", 3, A, ("lambda", (), B)))))

    def test_wrong_heads(self):
        self.refused("class", 1, 6)
        self.refused("class 1:\n pass", 1, 7)
        self.refused("class A():\n pass", 1, 9)
        self.refused("class A(b, c):\n pass", 1, 10)
        self.refused("class A(b,):\n pass", 1, 10)
        self.refused("class A(b.c):\n pass", 1, 10)
        self.refused("class A(1):\n pass", 1, 9)
        self.refused("class A(None):\n pass", 1, 9)
        self.refused("class A[b]:\n pass", 1, 8)
        self.refused("class A b:\n pass", 1, 9)
        self.refused("class A(b) c:\n pass", 1, 12)
        self.refused("class A(a=b):\n pass", 1, 10)
        self.refused("class A((b)):\n pass", 1, 9)

    def test_wrong_items(self):
        for item, column in (
                ("a", 3), ("a.b = 1", 3), ("a, b = c", 3), ("a += 1", 4), ("a = b = c", 8), ("a = yield", 6),
                ("(a) = b", 2), ("1 = b", 2), ("pass pass", 7), ("pass,", 6), ("if a:\n  b", 2),
                ("class B:\n  pass", 2), ("return", 2), ("'a'", 2), ("for a in b:\n  c", 2), ("del a", 2),
                ("a =", 5), ("a[0] = 1", 3), ("a()", 3), ("global a", 2), ("break", 2), ("lambda: a", 2),
                ("def f:\n  a", 7), ("a = b c", 8), ("while a:\n  b", 2), ("try:\n  a", 2), ("yield", 2)):
            self.refused("class A:\n " + item, 2, column)
            self.refused("class A:\n pass\n " + item, 3, column)
        self.refused("class A:\n pass\n  pass", 3, 3)
        self.refused("class A:\n pass\nelse:\n a", 3, 1)


class TestWith(StatementCase):

    def test_with(self):
        body = (("expr", 2, E),)
        self.reads("with a:\n e", ("with", 1, A, None, body))
        self.reads("with a as b:\n e", ("with", 1, A, "b", body))
        self.reads("with a(b) as c:\n e", ("with", 1, ("call", A, (B,), ()), "c", body))
        self.reads("with (a, b):\n e", ("with", 1, ("tuple", (A, B)), None, body))
        self.reads("with (a,) as b:\n e", ("with", 1, ("tuple", (A,)), "b", body))
        self.reads("with a if b else c as d:\n e", ("with", 1, ("choose", B, A, C), "d", body))
        self.reads("with lambda: a:\n e", ("with", 1, ("lambda", (), A), None, body))
        self.reads("\n\nwith (\na):\n\n e", ("with", 3, A, None, (("expr", 6, E),)))

    def test_wrong_with(self):
        self.refused("with:\n a", 1, 5)
        self.refused("with a, b:\n c", 1, 7)
        self.refused("with a as b, c as d:\n e", 1, 12)
        self.refused("with a as:\n b", 1, 10)
        self.refused("with a as 1:\n b", 1, 11)
        self.refused("with a as b.c:\n d", 1, 12)
        self.refused("with a as (b):\n c", 1, 11)
        self.refused("with (a as b):\n c", 1, 9)
        self.refused("with as a:\n b", 1, 6)
        self.refused("with a b:\n c", 1, 8)
        self.refused("with a:\n b\nelse:\n c", 3, 1)


class TestTry(StatementCase):

    def test_each_form(self):
        heads = ("except a:", "except a as b:", "except:")
        for first in range(8):
            chosen = [head for at, head in enumerate(heads) if first & 1 << at]
            for other in (False, True):
                for final in (False, True):
                    self.check_form(chosen, other, final)

    def check_form(self, heads, other, final):
        """Compose a try statement of these parts and read it, if it is one."""
        rows = ["try:", " a"]
        clauses = []
        for head in heads:
            rows += [head, " b"]
            clauses.append((len(rows) - 1, None if head == "except:" else A, "b" if "as" in head else None, (
                ("expr", len(rows), B),)))
        other_part = final_part = ()
        if other:
            rows += ["else:", " c"]
            other_part = (("expr", len(rows), C),)
        if final:
            rows += ["finally:", " d"]
            final_part = (("expr", len(rows), D),)
        text = "\n".join(rows)
        if not heads and (other or not final):
            self.refused(text, 3, 1)
        else:
            self.reads(text, ("try", 1, (("expr", 2, A),), tuple(clauses), other_part, final_part))

    def test_clauses(self):
        self.reads("try:\n a\nexcept (b, c) as d:\n e", ("try", 1, (("expr", 2, A),), (
            (3, ("tuple", (B, C)), "d", (("expr", 4, E),)),), (), ()))
        self.reads("\ntry:\n a\n\n# c\nexcept b:\n\n c\n\nexcept (\nd\n):\n\n e\nexcept:\n a\nelse:\n b\n"
                   "finally:\n c", (
                       "try", 2, (("expr", 3, A),), (
                           (6, B, None, (("expr", 8, C),)), (10, D, None, (("expr", 14, E),)),
                           (15, None, None, (("expr", 16, A),))), (("expr", 18, B),), (("expr", 20, C),)))
        self.reads("try:\n a\nexcept lambda: b:\n c", ("try", 1, (("expr", 2, A),), (
            (3, ("lambda", (), B), None, (("expr", 4, C),)),), (), ()))

    def test_try_in_blocks(self):
        self.reads("try:\n try:\n  a\n finally:\n  b\nexcept:\n c", ("try", 1, (
            ("try", 2, (("expr", 3, A),), (), (), (("expr", 5, B),)),), (
                (6, None, None, (("expr", 7, C),)),), (), ()))

    def test_wrong_try(self):
        self.refused("try:\n a", 3, 1)
        self.refused("try:\n a\nb", 3, 1)
        self.refused("try:\n a\nelse:\n b", 3, 1)
        self.refused("try:\n a\nelse:\n b\nfinally:\n c", 3, 1)
        self.refused("try a:\n b", 1, 5)
        self.refused("while a:\n try:\n  b\nc", 4, 1)
        self.refused("try:\n a\nexcept:\n b\nexcept c:\n d", 5, 1)
        self.refused("try:\n a\nexcept:\n b\nexcept:\n c", 5, 1)
        self.refused("try:\n a\nexcept:\n b\nelse:\n c\nexcept d:\n e", 7, 1)
        self.refused("try:\n a\nfinally:\n b\nexcept c:\n d", 5, 1)
        self.refused("try:\n a\nfinally:\n b\nelse:\n c", 5, 1)
        self.refused("try:\n a\nfinally:\n b\nfinally:\n c", 5, 1)
        self.refused("try:\n a\nexcept:\n b\nelse:\n c\nelse:\n d", 7, 1)
        self.refused("try:\n a\nexcept b, c:\n d", 3, 9)
        self.refused("try:\n a\nexcept as b:\n c", 3, 8)
        self.refused("try:\n a\nexcept b as:\n c", 3, 12)
        self.refused("try:\n a\nexcept b as c.d:\n e", 3, 14)
        self.refused("try:\n a\nexcept b as c, d:\n e", 3, 14)
        self.refused("try:\n a\nexcept b c:\n d", 3, 10)
        self.refused("try:\n a\nfinally b:\n c", 3, 9)
        self.refused("try:\n a\nelif b:\n c", 3, 1)


class TestKinds(StatementCase):

    def test_trees_are_tuples_throughout(self):
        text = ("def f(a, b=[1, 2]):\n  global c, d\n  for x, y in {1: (2,)}:\n    x.y[1:2](a, b=3)\n  else:\n"
                "    x, y = yield [z for z in a if z]\ntry:\n  pass\nexcept a as b:\n  raise\n"
                "class A(B):\n  a = lambda: 1 < 2 < 3\n  def f():\n    return a and b or not c\n"
                "if a:\n  b\nelif c:\n  d += -1\nelse:\n  with a as b:\n    del c")
        self.check_parts(read_tree(text))

    def check_parts(self, part):
        """All parts are tuples, or integers, strings, truths and None."""
        self.assertIn(type(part), (tuple, int, str, bool, type(None)))
        if isinstance(part, tuple):
            for inner in part:
                self.check_parts(inner)

    def test_errors_carry_no_more_than_a_place(self):
        with self.assertRaises(SourceError) as caught:
            read_tree("a b")
        self.assertEqual(vars(caught.exception), {"line": 1, "column": 3})


if __name__ == "__main__":
    unittest.main()
