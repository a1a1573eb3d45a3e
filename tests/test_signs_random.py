"""Points 4 to 9 against a second reader, which is made of regular expressions."""

import random
import re
import unittest

from likerun.signs import layout, tokens
from tests.helpers import SourceCase, outcome

KEYWORDS = (
    "and as break class continue def del elif else except False finally for from global if in is"
    " lambda mod None nonlocal not or pass raise return True try while with yield"
).split()
SIGN = re.compile(r"//=|\+=|-=|\*=|//|==|!=|<=|>=|[-<>=+*()\[\]{},:.]")
NAME = re.compile(r"[A-Za-z_][A-Za-z0-9_]*")
NUMBER = re.compile(r"[0-9]+")
GOOD_TEXT = re.compile(r"\"(?:[^\"\\\n]|\\[n\\'\"])*\"|'(?:[^'\\\n]|\\[n\\'\"])*'")
BAD_ESCAPE = re.compile(r"(?:\"(?:[^\"\\\n]|\\[n\\'\"])*|'(?:[^'\\\n]|\\[n\\'\"])*)\\[^n\\'\"\n]")
SKIPPED = re.compile(r"(?: |#[^\n]*)*")
ESCAPES = {"\\n": "\n", "\\\\": "\\", "\\'": "'", '\\"': '"'}
PIECES = (
    " ", " ", "  ", "\n", "\n", "\n ", "\n  ", "\n    ", "a", "if", "_b1", "0", "01", "7", "12", "1a", "'", '"', "'a'",
    '"b"', "\\", "\\n", "\\'", '\\"', "\\q", "(", ")", "[", "]", "{", "}", "(", ")", "#", "# c", "=", "==", "!", "!=",
    "/", "//", "+", "+=", "-", "<", ">=", ".", ",", ":", "$", "x" * 30, "x" * 31, "9" * 40, "9" * 41, "not",
)


class Refused(Exception):
    """The fault that the second reader finds: the class and the place."""


def second(text):
    """Return the tokens of a text, or raise Refused."""
    if len(text) > 6000:
        raise Refused("TooLong", 1, 1)
    rows = text.split("\n")
    bad = re.search(r"[^ -$&-~\n]", text)
    if bad:
        raise Refused("BadSign", *place(text, bad.start()))
    for line, row in enumerate(rows):
        if len(row) > 120:
            raise Refused("TooLong", line + 1, 121)
    found = []
    stack = [0]
    at = 0
    while at < len(text):
        at = logical_line(text, at, found, stack)
    line = found[-1][2] + 1 if found else 1
    found += [("dedent", "", line, 1)] * (len(stack) - 1)
    return found + [("end", "", line, 1)]


def place(text, at):
    """Return the line and the column of an index."""
    before = text[:at]
    return before.count("\n") + 1, at - before.rfind("\n")


def logical_line(text, at, found, stack):
    """Put the tokens of one logical line behind those found, and return the index behind it."""
    first = SKIPPED.match(text, at).end()
    if text[first:first + 1] in ("", "\n"):
        return first + 1
    indent(text, first, found, stack)
    brackets = []
    at = first
    many = 0
    while True:
        kind, word, stop = one(text, at)
        here = place(text, at)
        many += 1
        if many > 120:
            raise Refused("TooLong", *here)
        if kind == "sign" and word in "([{":
            brackets.append((word, here))
        if kind == "sign" and word in ")]}":
            if not brackets or brackets.pop()[0] + word not in ("()", "[]", "{}"):
                raise Refused("BadToken", *here)
        found.append((kind, word) + here)
        at = SKIPPED.match(text, stop).end()
        while brackets and text[at:at + 1] == "\n":
            at = SKIPPED.match(text, at + 1).end()
        if at == len(text) and brackets:
            raise Refused("BadToken", *brackets[-1][1])
        if at == len(text) or text[at] == "\n":
            found.append(("newline", "") + place(text, stop))
            return at + 1


def indent(text, first, found, stack):
    """Put what the indentation of a logical line brings behind the tokens found."""
    here = place(text, first)
    width = here[1] - 1
    if not found and width:
        raise Refused("BadIndent", *here)
    if width > stack[-1]:
        stack.append(width)
        if len(stack) == 12:
            raise Refused("TooDeep", *here)
        found.append(("indent", "") + here)
    while width < stack[-1]:
        del stack[-1]
        found.append(("dedent", "") + here)
    if width != stack[-1]:
        raise Refused("BadIndent", *here)


def one(text, at):
    """Return the kind and the word of the token at this index, and the index behind it."""
    here = place(text, at)
    found = NAME.match(text, at)
    if found:
        if len(found.group()) > 30:
            raise Refused("BadToken", *here)
        return "keyword" if found.group() in KEYWORDS else "name", found.group(), found.end()
    found = NUMBER.match(text, at)
    if found:
        digits = found.group()
        if len(digits) > 40 or str(int(digits)) != digits or NAME.match(text, found.end()):
            raise Refused("BadToken", *here)
        return "number", int(digits), found.end()
    found = GOOD_TEXT.match(text, at)
    if found:
        inner = re.sub(r"\\.", lambda escape: ESCAPES[escape.group()], found.group()[1:-1])
        return "text", inner, found.end()
    found = BAD_ESCAPE.match(text, at)
    if found:
        raise Refused("BadToken", *place(text, found.end() - 2))
    found = SIGN.match(text, at)
    if found:
        return "sign", found.group(), found.end()
    raise Refused("BadToken", *here)


class TestSignsAtRandom(SourceCase):

    def compare(self, text):
        """Both readers tell the same of a text; return whether they accept it."""
        with self.subTest(text=text):
            try:
                wanted = second(text)
            except Refused as refused:
                self.assertEqual(outcome(tokens, text), refused.args)
                return False
            found = tokens(text)
            self.assert_same(found, wanted)
            self.check_layout(found)
        return True

    def check_layout(self, marks):
        """The written tokens have the same kinds and words, and are written so again."""
        written = layout(marks)
        if len(written) <= 6000 and max(len(row) for row in written.split("\n")) <= 120:
            again = tokens(written)
            self.assert_same([mark[:2] for mark in again], [mark[:2] for mark in marks])
            self.assertEqual(layout(again), written)

    def test_pieces(self):
        rng = random.Random(5)
        accepted = 0
        for _ in range(20000):
            pieces = [rng.choice(PIECES) for _ in range(rng.randrange(1, 12))]
            accepted += self.compare("".join(pieces))
        self.assertGreater(accepted, 2000)

    def test_indentation(self):
        rng = random.Random(7)
        accepted = 0
        for _ in range(5000):
            width = 0
            rows = []
            for _ in range(rng.randrange(1, 30)):
                rows.append(" " * width + rng.choice(["x"] * 40 + ["# c", "", "(\n)"] * 10 + ["?"]))
                width = max(0, width + rng.choice([0, 0, 1, 1, 1, -1, -1, -2]))
            accepted += self.compare("\n".join(rows))
        self.assertGreater(accepted, 1000)

    def test_long_logical_lines(self):
        rng = random.Random(6)
        accepted = 0
        for _ in range(2000):
            pieces = [rng.choice([". ", "x ", "() ", "[\n] ", "1\n", "'a' "]) for _ in range(rng.randrange(83, 95))]
            text = "(" + "".join(pieces) + rng.choice([")"] * 5 + [") ]", "\n)\n?", "]", "01)", "'\\q')", "("])
            text = re.sub("(.{100} )", "\\1\n", text)
            accepted += self.compare(text)
        self.assertGreater(accepted, 100)


if __name__ == "__main__":
    unittest.main()
