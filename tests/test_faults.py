"""Point 12: the places of faults of grammar and of the further rules of point 11, and which one goes first."""

import unittest

from likerun.errors import BadSyntax
from likerun.trees import read_tree
from tests.helpers import SourceCase


class FaultCase(SourceCase):

    def accepted(self, text):
        self.assert_accepted(read_tree, text)

    def refused(self, text, line, column):
        self.assert_refused(read_tree, text, BadSyntax, line, column)


class TestExamples(FaultCase):

    def test_examples_of_the_point(self):
        self.refused("1 = x", 1, 3)
        self.refused("f(a=1, b + c)", 1, 13)
        self.refused("del a + b", 1, 10)
        self.refused("a not b", 1, 7)
        self.refused("f((a)=1)", 1, 6)
        self.refused("a\n  b", 2, 3)

    def test_places_of_tokens_without_a_word(self):
        # The newline token stands just behind the last token, not at the end of the row.
        self.refused("a +     # c", 1, 4)
        self.refused("(a\n)  not   \n\nb", 2, 7)
        self.refused("del (a,\nb)   # c", 2, 3)
        # A dedent has the place of the token behind it, the end that of the row behind the last token.
        self.refused("while a:\n  try:\n    b\n\n\n  c", 6, 3)
        self.refused("if a:\n  b\ntry:\n  c\n\n# d\n", 5, 1)
        self.refused("if a:\n\n\n", 2, 1)


class TestFurtherRules(FaultCase):

    def test_targets_of_assign(self):
        for left, column in (("1", 3), ("a + b", 7), ("a()", 5), ("[a]", 5), ("()", 4), ("a, (b, c)", 11),
                             ("a, 'b'", 8), ("a[b:c]", 8), ("(a, b())", 10), ("not a", 7)):
            self.refused(left + " = x", 1, column)
            self.refused("while a:\n  " + left + " = x", 2, column + 2)
        self.refused("(a\n()\n)    = x", 3, 6)

    def test_targets_of_augment(self):
        for sign in ("+=", "-=", "*=", "//="):
            for left, column in (("1", 3), ("a, b", 6), ("(a, b)", 8), ("a()", 5), ("a,", 4), ("a[:]", 6)):
                self.refused(left + " " + sign + " x", 1, column)

    def test_targets_of_del(self):
        for target in ("1", "a + b", "a()", "(a, b)", "[a]", "()", "a[b:c]", "not a", "lambda: a", "-a"):
            self.refused("del " + target, 1, 5 + len(target))
            self.refused("del " + target + "    # c\na", 1, 5 + len(target))

    def test_order_of_arguments(self):
        self.refused("f(a=1, b)", 1, 9)
        self.refused("f(a=1, b, c)", 1, 9)
        self.refused("f(a=1,\nb\n,c)", 3, 1)
        self.refused("f(a=1, (b, c))", 1, 14)
        self.refused("f(a=1, lambda: b)", 1, 17)
        self.accepted("f(b, c, a=1, d=2)")
        self.accepted("f(g(a=1), b)")
        self.accepted("f(a=g(b), c=1)")
        self.accepted("f(a=1)(b)")

    def test_order_of_parameters(self):
        self.refused("def f(a=1, b):\n c", 1, 13)
        self.refused("def f(a=1, b, c):\n d", 1, 13)
        self.refused("def f(a=1,\nb\n, c=1):\n d", 3, 1)
        self.refused("lambda a=1, b: c", 1, 14)
        self.refused("lambda a=1, b, c: d", 1, 14)
        self.refused("x = [lambda a=1, b: c for d in e]", 1, 19)
        self.refused("class A:\n def f(self, a=1, b):\n  c", 2, 20)
        self.accepted("def f(a=lambda b: c, d=1):\n e")
        self.accepted("lambda a, b=lambda c, d=1: e, f=2: a")

    def test_rules_within_other_parts(self):
        self.refused("a = f(b=1, c)", 1, 13)
        self.refused("if f(b=1, c):\n d", 1, 12)
        self.refused("f(lambda a=1, b: c)", 1, 16)
        self.refused("try:\n a\nexcept f(b=1, c):\n d", 3, 16)
        self.refused("def f(a=g(b=1, c)):\n d", 1, 17)


class TestOrder(FaultCase):

    def test_fault_of_grammar_ahead_of_a_further_rule(self):
        self.refused("a b\n1 = x", 1, 3)
        self.refused("(a b) + 1 = x", 1, 4)
        self.refused("a + = x", 1, 5)
        self.refused("del a b + c", 1, 7)
        self.refused("del a +", 1, 8)
        self.refused("f(a=1, b c, d)", 1, 10)
        self.refused("f(a b=1, c)", 1, 5)
        self.refused("f(b c, a=1, d)", 1, 5)
        self.refused("def f(a b=1, c):\n d", 1, 9)
        self.refused("def f(a=1 2, b):\n c", 1, 11)
        self.refused("lambda a=1 2, b: c", 1, 12)

    def test_fault_of_grammar_behind_a_further_rule(self):
        self.refused("1 = x\na b", 1, 3)
        self.refused("1 = x y", 1, 3)
        self.refused("1 = = x", 1, 3)
        self.refused("1 = x = y", 1, 3)
        self.refused("1 +=", 1, 3)
        self.refused("del a + b\na b", 1, 10)
        self.refused("f(a=1, b, c d)", 1, 9)
        self.refused("f(a=1, b) c", 1, 9)
        self.refused("f(a=1, b) = c", 1, 9)
        self.refused("def f(a=1, b) c:\n d", 1, 13)
        self.refused("def f(a=1, b):\nc", 1, 13)
        self.refused("def f(a=1, b,,):\n c", 1, 13)
        self.refused("lambda a=1, b c: d", 1, 15)

    def test_two_further_rules(self):
        self.refused("1 = f(a=1, b)", 1, 3)
        self.refused("f(a=1, b) = 1", 1, 9)
        self.refused("del f(a=1, b)", 1, 13)
        self.refused("f(a=1, g(b=2, c), d)", 1, 16)
        self.refused("f(g(b=2, c), a=1, d)", 1, 11)
        self.refused("def f(a=lambda b=1, c: d, e):\n 1 = x", 1, 22)
        self.refused("def f(a=1, b=2):\n 1 = x\n2 = y", 2, 4)

    def test_both_at_one_token(self):
        self.refused("del (a, b) c", 1, 12)
        self.refused("del a() b", 1, 9)
        self.refused("f(a=1, b c)", 1, 10)
        self.refused("f(a=1, b 1)", 1, 10)
        self.refused("def f(a=1, b c):\n d", 1, 14)


if __name__ == "__main__":
    unittest.main()
