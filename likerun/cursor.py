"""A place in a list of tokens, from which the grammar takes one after the other."""

from likerun.errors import BadSyntax, TooDeep

PART_LIMIT = 20


class Cursor:
    """Stands before the next token, and counts the parts that are not yet complete."""

    def __init__(self, marks):
        self.marks = marks
        self.at = 0
        self.parts = 0

    def sees(self, word):
        """Tell whether the next token is this sign or keyword."""
        return is_word(self.marks[self.at], word)

    def sees_behind(self, word):
        """Tell whether the token behind the next one is this sign or keyword."""
        return is_word(self.marks[self.at + 1], word)

    def sees_kind(self, kind):
        """Tell whether the next token is of this kind."""
        return self.marks[self.at][0] == kind

    def sees_expression(self):
        """Tell whether an expression may begin with the next token."""
        kind, word = self.marks[self.at][:2]
        if kind == "keyword":
            return word in ("lambda", "not", "None", "True", "False")
        if kind == "sign":
            return word in ("-", "(", "[", "{")
        return kind in ("name", "number", "text")

    def line_here(self):
        """Return the line of the next token."""
        return self.marks[self.at][2]

    def take(self):
        """Go behind the next token and return its word."""
        word = self.marks[self.at][1]
        self.at += 1
        return word

    def skips(self, word):
        """Go behind this sign or keyword if it is the next token, and tell whether it was."""
        found = self.sees(word)
        if found:
            self.at += 1
        return found

    def expect(self, word):
        """Go behind this sign or keyword, which must be the next token."""
        if not self.sees(word):
            self.refuse()
        self.at += 1

    def expect_kind(self, kind):
        """Go behind a token of this kind, which must be the next one, and return its word."""
        if not self.sees_kind(kind):
            self.refuse()
        return self.take()

    def begin_part(self):
        """Go behind the token with which a counted part begins."""
        if self.parts == PART_LIMIT:
            self.refuse_depth()
        self.parts += 1
        self.at += 1

    def end_part(self):
        """Count the innermost part no more: it is complete."""
        self.parts -= 1

    def end_bracket(self, word):
        """Go behind the closing bracket of the innermost part."""
        self.expect(word)
        self.end_part()

    def refuse(self):
        """Raise the fault of grammar that has its place at the next token."""
        mark = self.marks[self.at]
        raise BadSyntax(mark[2], mark[3])

    def refuse_depth(self):
        """Raise the fault of nesting that has its place at the next token."""
        mark = self.marks[self.at]
        raise TooDeep(mark[2], mark[3])


def is_word(mark, word):
    """Tell whether a token is this sign or keyword."""
    return mark[1] == word and mark[0] in ("sign", "keyword")
