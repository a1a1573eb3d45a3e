"""Point 13: parts within each other and elif parts; the order of TooDeep and BadSyntax."""

import random
import sys
import unittest

from likerun.errors import BadIndent, BadSign, BadSyntax, BadToken, TooDeep, TooLong
from likerun.signs import tokens
from likerun.trees import read_tree
from tests.helpers import SourceCase, expression, outcome

# Where a part may stand: in an expression, behind "or" or "not", behind "-".
ANY, TEST, OPERAND = 0, 1, 2
# The parts that count: up to where they may stand, their text with "|" before the token that counts, what stands
# behind the part within it, and where that one stands.
PARTS = (
    (OPERAND, "|(", ")", ANY), (OPERAND, "|[", "]", ANY), (OPERAND, "|{a:", "}", ANY), (OPERAND, "|{", ": a}", ANY),
    (OPERAND, "a|(", ")", ANY), (OPERAND, "a|(b=", ")", ANY), (OPERAND, "a|[", "]", ANY), (OPERAND, "a|[:", "]", ANY),
    (OPERAND, "a|[b:", "]", ANY), (OPERAND, "a.b|[::", "]", ANY), (OPERAND, "|(a, ", ")", ANY),
    (OPERAND, "|[b for c in", "]", TEST), (OPERAND, "|[b for c in d if", "]", TEST), (OPERAND, "|-", "", OPERAND),
    (TEST, "|not", "", TEST), (ANY, "|lambda:", "", ANY), (ANY, "|lambda a=", ": b", ANY),
    (ANY, "a if b |else", "", ANY),
)
# The same with other parts beside them, which are complete before the one within begins, or begin behind it.
FULL_PARTS = PARTS + (
    (ANY, "a or not b if -c |else", "", ANY), (OPERAND, "|(a, -b,", ")", ANY), (OPERAND, "a()|[", "]", ANY),
    (OPERAND, "|[not a, {},", ", -b]", ANY),
)


def random_parts(rng, many):
    """Return so many parts, each of which may stand within the one before."""
    parts = [PARTS[0]]
    while len(parts) < many:
        # What stands beside a part would count near the limit.
        part = rng.choice(FULL_PARTS if len(parts) < 18 else PARTS)
        if part[0] >= parts[-1][3]:
            parts.append(part)
    return parts


class NestingCase(SourceCase):

    def accepted(self, text):
        self.assert_accepted(read_tree, text)

    def too_deep(self, text, line, column):
        self.assert_refused(read_tree, text, TooDeep, line, column)

    def refused(self, text, line, column):
        self.assert_refused(read_tree, text, BadSyntax, line, column)


class TestParts(NestingCase):

    def check_limit(self, head, tail, column):
        """20 parts of this sort are accepted; the token that begins the 21st is refused."""
        rows = ["("] + [head] * 19 + ["x"] + [tail] * 19 + [")"]
        self.accepted("\n".join(rows))
        rows = ["("] + [head] * 20 + ["x"] + [tail] * 20 + [")"]
        self.too_deep("\n".join(rows), 21, column)

    def test_each_sort_of_bracket(self):
        self.check_limit("(", ")", 1)
        self.check_limit("[", "]", 1)
        self.check_limit("{a:", "}", 1)
        self.check_limit("{", ": a}", 1)
        self.check_limit("a(", ")", 2)
        self.check_limit("a[", "]", 2)
        self.check_limit("a[:", "]", 2)
        self.check_limit("a[::", "]", 2)
        self.check_limit(" a .b(", ")", 6)

    def test_round_brackets_without_an_outer_part(self):
        self.accepted("(" * 20 + ")" * 20)
        self.accepted("(" * 20 + "x" + ")" * 20)
        self.too_deep("(" * 21 + ")" * 21, 1, 21)
        self.too_deep("x = " + "(" * 21 + "x" + ")" * 21, 1, 25)
        self.accepted("[" * 20 + "]" * 20)
        self.too_deep("[" * 21 + "]" * 21, 1, 21)
        self.accepted("[" * 19 + "{" + "}" + "]" * 19)
        self.too_deep("[" * 20 + "{" + "}" + "]" * 20, 1, 21)

    def test_not(self):
        self.accepted("not " * 20 + "x")
        self.too_deep("not " * 21 + "x", 1, 81)

    def test_minus(self):
        self.accepted("-" * 20 + "x")
        self.too_deep("-" * 21 + "x", 1, 21)
        self.accepted("x " + "-" * 21 + "x")
        self.too_deep("x " + "-" * 22 + "x", 1, 24)

    def test_lambda(self):
        self.accepted("(\n" + "lambda:\n" * 19 + "x)")
        self.too_deep("(\n" + "lambda:\n" * 20 + "x)", 21, 1)
        self.accepted("(\n" + "lambda a=\n" * 19 + "x" + ": a\n" * 19 + ")")
        self.too_deep("(\n" + "lambda a=\n" * 20 + "x" + ": a\n" * 20 + ")", 21, 1)
        self.accepted("(\n" + "lambda a:\n" * 19 + "x)")

    def test_else_of_a_choice(self):
        self.accepted("(\n" + "a if b else\n" * 19 + "x)")
        self.too_deep("(\n" + "a if b else\n" * 20 + "x)", 21, 8)
        self.accepted("a if b else " * 9 + "x")

    def test_comprehensions(self):
        self.accepted("(\n" + "[\n" * 19 + "x" + " for a in b]\n" * 19 + ")")
        self.accepted("(\n" + "[x for a in\n" * 14 + "(((((b)))))" + "]\n" * 14 + ")")
        self.too_deep("(\n" + "[x for a in\n" * 14 + "((((((b))))))" + "]\n" * 14 + ")", 16, 6)

    def test_mixed_sorts(self):
        text = "(\n-\n[\na(\na[\n{a:\nlambda:\na if b else\nnot -\n"
        behind = "}]\n)\n]\n)"
        # These are ten parts.
        self.accepted(text + "-" * 10 + "x" + behind)
        self.too_deep(text + "-" * 11 + "x" + behind, 10, 11)
        self.accepted(text + "(" * 10 + "x" + ")" * 10 + behind)
        self.too_deep(text + "(" * 11 + "x" + ")" * 11 + behind, 10, 11)
        self.accepted(text + "(" * 9 + "not x" + ")" * 9 + behind)
        self.too_deep(text + "(" * 10 + "not x" + ")" * 10 + behind, 10, 11)
        self.too_deep(text + "(" * 10 + "lambda: x" + ")" * 10 + behind, 10, 11)
        self.too_deep(text + "(" * 10 + "a if b else c" + ")" * 10 + behind, 10, 18)
        self.too_deep(text + "(" * 10 + "a[b]" + ")" * 10 + behind, 10, 12)
        self.too_deep(text + "(" * 10 + "a()" + ")" * 10 + behind, 10, 12)
        self.too_deep(text + "(" * 10 + "{}" + ")" * 10 + behind, 10, 11)
        self.too_deep(text + "(" * 10 + "[]" + ")" * 10 + behind, 10, 11)
        self.too_deep(text + "(" * 10 + "-a" + ")" * 10 + behind, 10, 11)
        self.too_deep(text + "(" * 10 + "()" + ")" * 10 + behind, 10, 11)

    def test_parts_at_random(self):
        rng = random.Random(13)
        read = 0
        while read < 500:
            many = rng.choice((18, 19, 20, 21, 22))
            parts = random_parts(rng, many)
            text = "\n".join([part[1].replace("|", "") for part in parts] + ["x"] + [
                part[2] for part in reversed(parts)])
            if outcome(tokens, text)[0] != "accepted":
                continue
            read += 1
            if many <= 20:
                self.accepted(text)
            else:
                self.too_deep(text, 21, parts[20][1].index("|") + 1)

    def test_brackets_of_def_and_class_count(self):
        self.accepted("def f(a=" + "(" * 19 + ")" * 19 + "):\n a")
        self.too_deep("def f(a=" + "(" * 20 + ")" * 20 + "):\n a", 1, 28)
        self.accepted("def f(a=" + "-" * 19 + "x):\n a")
        self.too_deep("def f(a=" + "-" * 20 + "x):\n a", 1, 28)
        self.accepted("class A(b):\n a = " + "(" * 20 + ")" * 20)
        self.too_deep("class A(b):\n a = " + "(" * 21 + ")" * 21, 2, 26)

    def test_each_place_of_an_expression(self):
        deep = "(" * 20 + ")" * 20
        deeper = "(" * 21 + ")" * 21
        for head, tail in (
                ("", ""), ("return ", ""), ("raise ", ""), ("raise a from ", ""), ("yield ", ""), ("a = ", ""),
                ("a = yield ", ""), ("a += ", ""), ("if ", ":\n b"), ("while ", ":\n b"),
                ("for a in ", ":\n b"), ("with ", " as c:\n b"), ("del ", ".a"), ("a, ", ""),
                ("try:\n a\nexcept ", ":\n b"), ("if a:\n b\nelif ", ":\n c"), ("class A:\n a = ", "")):
            self.accepted(head + deep + tail)
            row = head.split("\n")[-1]
            self.too_deep(head + deeper + tail, 1 + head.count("\n"), len(row) + 21)


class TestCompleteParts(NestingCase):

    def test_brackets_beside_each_other(self):
        self.accepted("()\n" * 30)
        self.accepted("f" + "()" * 50)
        self.accepted("a" + "[b]" * 39)
        self.accepted("[" + "(), " * 29 + "]")
        self.accepted("[" * 19 + "()" + ", []" * 10 + ", -a, not b, lambda: c, d if e else a" + "]" * 19)
        self.too_deep("[" * 19 + "()" + ", []" * 10 + ", (-a)" + "]" * 19, 1, 65)

    def test_parts_that_end_with_the_token_behind_them(self):
        self.accepted("[" + "-a, " * 29 + "-b]")
        self.accepted("-a" + "+ -a" * 25)
        self.accepted("not a" + " and not b" * 11)
        self.accepted("f(" + "lambda: a, " * 10 + ")")
        self.accepted("f(" + "a if b else c, " * 7 + ")")
        self.accepted("[" * 19 + "-a, -b, not c, not d, lambda: a, b if c else d, -e" + "]" * 19)
        self.accepted("[" * 18 + "lambda a=-1, b=-2: c, lambda: -d" + "]" * 18)

    def test_the_token_behind_may_count_itself(self):
        # The else completes the "-" and the "not" before it, and counts one.
        self.accepted("(" * 19 + "a if -b else c" + ")" * 19)
        self.accepted("(" * 19 + "a if not b else c" + ")" * 19)
        self.accepted("(" * 18 + "a if not -b else -c" + ")" * 18)
        self.accepted("(" * 19 + "-a if b else c" + ")" * 19)
        self.too_deep("(" * 19 + "a if -b else -c" + ")" * 19, 1, 33)
        self.too_deep("(" * 19 + "a if b else c if d else e" + ")" * 19, 1, 39)
        self.too_deep("(" * 19 + "a if not -b else c" + ")" * 19, 1, 29)
        # A bracket behind the operand of "-" belongs to the part.
        self.accepted("(" * 18 + "-a(b)" + ")" * 18)
        self.too_deep("(" * 19 + "-a(b)" + ")" * 19, 1, 22)
        self.too_deep("(" * 19 + "-a[b]" + ")" * 19, 1, 22)
        # One behind brackets does not.
        self.accepted("(" * 19 + "(a)(b)[c]" + ")" * 19)

    def test_lambda_counts_to_the_end_of_its_body(self):
        self.accepted("(" * 18 + "lambda: (a)" + ")" * 18)
        self.too_deep("(" * 19 + "lambda: (a)" + ")" * 19, 1, 28)
        self.too_deep("(" * 19 + "lambda: a or b and c + -d" + ")" * 19, 1, 43)
        self.too_deep("(" * 19 + "lambda a=(): b" + ")" * 19, 1, 29)
        self.too_deep("(" * 19 + "lambda: a if b else c" + ")" * 19, 1, 35)
        self.accepted("(" * 19 + "lambda: a, (b), -c" + ")" * 19)
        self.accepted("(" * 18 + "lambda a=-1, b=(): (c)" + ")" * 18)

    def test_words_that_do_not_count(self):
        deep = "(" * 20
        closing = ")" * 20
        for text in ("a - b", "a not in b", "a is not b", "a and b or c", "a + b * c", "a.b.c", "a < b", "a, b",
                     "None", "'not ('", "1"):
            self.accepted(deep + text + closing)
        self.accepted("if a:\n b\nelse:\n " + deep + closing)
        self.accepted("(" * 19 + "[a for b in c if d]" + ")" * 19)

    def test_counts_begin_anew_in_each_statement(self):
        line = "(" * 20 + ")" * 20
        self.accepted("\n".join([line] * 5))
        self.accepted("if " + line + ":\n " + line + "\nelse:\n " + line)
        self.accepted("\n".join(" " * level + "if " + line + ":" for level in range(10)) + "\n" + " " * 10 + line)


class TestElif(NestingCase):

    def test_20_elif_parts(self):
        self.accepted("if a:\n b\n" + "elif c:\n d\n" * 20)
        self.accepted("if a:\n b\n" + "elif c:\n d\n" * 20 + "else:\n e")

    def test_21_elif_parts(self):
        self.too_deep("if a:\n b\n" + "elif c:\n d\n" * 21, 43, 1)
        self.too_deep("if a:\n b\n" + "elif c:\n d\n" * 20 + "\n# c\nelif c d", 45, 1)
        self.too_deep("if x:\n if a:\n  b\n" + " elif c:\n  d\n" * 21, 44, 2)
        self.too_deep("if a:\n b\n" + "elif c:\n d\n" * 30, 43, 1)

    def test_each_if_has_its_own(self):
        one = "if a:\n b\n" + "elif c:\n d\n" * 20
        self.accepted(one + one)
        inner = "".join(" " + row + "\n" for row in one.split("\n")[:-1])
        self.accepted("if a:\n" + inner + "elif c:\n" + inner + "elif c:\n d\n" * 19)

    def test_tree_of_20_elif_parts(self):
        tree = read_tree("if a:\n b\n" + "elif c:\n d\n" * 20 + "else:\n e")
        lines = []
        while tree and tree[0][0] == "if":
            self.assertEqual(len(tree), 1)
            lines.append(tree[0][1])
            tree = tree[0][4]
        self.assertEqual(lines, list(range(1, 43, 2)))
        self.assertEqual(tree, (("expr", 44, ("name", "e")),))

    def test_place_of_a_21st_elif_behind_else(self):
        self.refused("if a:\n b\n" + "elif c:\n d\n" * 20 + "else:\n e\nelif a:\n b", 45, 1)


class TestOrder(NestingCase):

    def test_bad_syntax_ahead_of_too_deep(self):
        self.refused("a b " + "(" * 21 + ")" * 21, 1, 3)
        self.refused("a b\n" + "(" * 21 + ")" * 21, 1, 3)
        self.refused("1 = " + "(" * 21 + ")" * 21, 1, 3)
        self.refused("(" * 20 + "a b" + "(" + ")" * 21, 1, 23)
        self.refused("f(a=1, b, " + "(" * 21 + ")" * 22, 1, 9)
        self.refused("if a:\n b c\n" + "elif c:\n d\n" * 21, 2, 4)
        self.refused("del a + b\n" + "-" * 21 + "a", 1, 10)

    def test_too_deep_ahead_of_bad_syntax(self):
        self.too_deep("(" * 21 + "a b" + ")" * 21, 1, 21)
        self.too_deep("(" * 21 + ")" * 21 + " = 1", 1, 21)
        self.too_deep("(" * 21 + ")" * 21 + "\na b", 1, 21)
        self.too_deep("del -" + "(" * 20 + ")" * 20, 1, 25)
        self.too_deep("f(a=1, " + "(" * 20 + ")" * 20 + ")", 1, 27)
        self.too_deep("-" * 21, 1, 21)
        self.too_deep("not " * 21, 1, 81)
        self.too_deep("if a:\n b\n" + "elif c:\n d\n" * 21 + "a b", 43, 1)
        self.too_deep("if a:\n b\n" + "elif c:\n d\n" * 20 + "elif", 43, 1)

    def test_tokens_that_the_grammar_does_not_take(self):
        # They would count where they are taken, but here they are faults.
        deep = "(" * 20
        closing = ")" * 20
        self.refused(deep + "a not b" + closing, 1, 27)
        self.refused(deep + "a + not b" + closing, 1, 25)
        self.refused(deep + "a or lambda: b" + closing, 1, 26)
        self.refused(deep + "a else b" + closing, 1, 23)
        self.refused(deep + "a {}" + closing, 1, 23)
        self.refused(deep + "a == not b" + closing, 1, 26)
        self.refused(deep + "a.(b)" + closing, 1, 23)
        self.refused("[" * 20 + "a for (b) in c" + "]" * 20, 1, 27)

    def test_errors_of_part_1_go_first(self):
        deep = "(" * 21 + ")" * 21 + "\n"
        for before in (deep, "a b\n", "1 = x\n", "if a\n", "del 1\n", "f(a=1, b)\n"):
            many = before.count("\n")
            self.assert_refused(read_tree, before + "?", BadToken, many + 1, 1)
            self.assert_refused(read_tree, before + "  a\n b", BadIndent, many + 2, 2)
            self.assert_refused(read_tree, before + "\t", BadSign, many + 1, 1)
            self.assert_refused(read_tree, before + "#" * 121, TooLong, many + 1, 121)
            self.assert_refused(read_tree, before + "(", BadToken, many + 1, 1)
            self.assert_refused(read_tree, before + "\n" * 6000, TooLong, 1, 1)
            blocks = "\n".join(" " * level + "x" for level in range(12))
            self.assert_refused(read_tree, before + blocks, TooDeep, many + 12, 12)
        self.assert_refused(read_tree, "f((a\n)=1) )", BadToken, 2, 6)
        self.assert_refused(read_tree, "a b '", BadToken, 1, 5)


class TestDepthOfCalls(NestingCase):

    def test_deepest_programs(self):
        """Point 96 and L11: some hundred calls within each other are enough."""
        head = "".join(" " * level + "try:\n" for level in range(10))
        rows = [" " * 10 + "x = (\n"] + ["a[\n"] * 19 + ["b"] + ["]"] * 19 + [")\n"]
        tail = "".join(" " * level + "finally:\n" + " " * (level + 1) + "pass\n" for level in reversed(range(10)))
        text = head + "".join(rows) + tail
        self.check_depth(text, 320)
        self.check_depth("(" * 20 + "x" + ")" * 20, 320)
        self.check_depth("x" + ".a" * 59 + "\n" + "x" + "+x" * 59, 100)
        self.check_depth("if a:\n b\n" + "elif c:\n d\n" * 20, 100)

    def check_depth(self, text, calls):
        """The text is read with so many calls within each other at most."""
        frame = sys._getframe()
        here = 0
        while frame is not None:
            here += 1
            frame = frame.f_back
        limit = sys.getrecursionlimit()
        sys.setrecursionlimit(here + calls)
        try:
            read_tree(text)
        finally:
            sys.setrecursionlimit(limit)

    def test_trees_of_long_chains(self):
        tree = expression("x" + ".a" * 59)
        for _ in range(59):
            self.assertEqual((tree[0], tree[2]), ("attribute", "a"))
            tree = tree[1]
        self.assertEqual(tree, ("name", "x"))


if __name__ == "__main__":
    unittest.main()
