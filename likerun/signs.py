"""Source texts as lists of tokens, and lists of tokens as texts."""

from likerun.errors import BadIndent, BadSign, BadToken, TooDeep, TooLong
from likerun.letters import is_row, quoted
from likerun.scanning import scan_token

TEXT_LIMIT = 6000
ROW_LIMIT = 120
TOKEN_LIMIT = 120
INDENT_LIMIT = 11
OPENING = ("(", "[", "{")
CLOSING = {")": "(", "]": "[", "}": "{"}


class Scanner:
    """Gathers the tokens of a text, row by row."""

    def __init__(self):
        self.marks = []
        self.brackets = []
        self.indents = [0]
        # How many tokens the present logical line has, and the column behind the last one.
        self.many = 0
        self.behind = 1

    def scan_row(self, row, line):
        """Gather the tokens of one row, and end the logical line if it does not go on."""
        at = spaces_end(row, 0)
        while at < len(row) and row[at] != "#":
            if self.many == 0:
                self.begin_line(line, at + 1)
            kind, word, stop = scan_token(row, at, line)
            self.gather((kind, word, line, at + 1))
            self.behind = stop + 1
            at = spaces_end(row, stop)
        if self.many > 0 and not self.brackets:
            self.end_line(line)

    def begin_line(self, line, column):
        """Compare the indentation of a logical line with the blocks around it."""
        indent = column - 1
        if indent > 0 and not self.marks:
            raise BadIndent(line, column)
        if indent > self.indents[-1]:
            self.indents.append(indent)
            if len(self.indents) > INDENT_LIMIT:
                raise TooDeep(line, column)
            self.marks.append(("indent", "", line, column))
        while indent < self.indents[-1]:
            self.indents.pop()
            self.marks.append(("dedent", "", line, column))
        if indent > self.indents[-1]:
            raise BadIndent(line, column)

    def gather(self, mark):
        """Keep a token of the present logical line."""
        self.many += 1
        if self.many > TOKEN_LIMIT:
            raise TooLong(mark[2], mark[3])
        if mark[0] == "sign":
            self.match_bracket(mark)
        self.marks.append(mark)

    def match_bracket(self, mark):
        """Keep an opening bracket, and let a closing one close the innermost of them."""
        word = mark[1]
        if word in OPENING:
            self.brackets.append(mark)
        elif word in CLOSING:
            if not self.brackets or self.brackets[-1][1] != CLOSING[word]:
                raise BadToken(mark[2], mark[3])
            self.brackets.pop()

    def end_line(self, line):
        """End the present logical line behind its last token."""
        self.marks.append(("newline", "", line, self.behind))
        self.many = 0

    def end_text(self):
        """End the text: all blocks are closed."""
        if self.brackets:
            raise BadToken(self.brackets[-1][2], self.brackets[-1][3])
        line = 1
        if self.marks:
            line = self.marks[-1][2] + 1
        for _ in self.indents[1:]:
            self.marks.append(("dedent", "", line, 1))
        self.marks.append(("end", "", line, 1))


def tokens(text):
    """Return the list of the tokens of a source text."""
    rows = checked_rows(text)
    scanner = Scanner()
    for line, row in enumerate(rows, start=1):
        scanner.scan_row(row, line)
    scanner.end_text()
    return scanner.marks


def checked_rows(text):
    """Return the rows of a text whose characters and lengths are allowed."""
    if len(text) > TEXT_LIMIT:
        raise TooLong(1, 1)
    rows = text.split("\n")
    for line, row in enumerate(rows, start=1):
        check_letters(row, line)
    for line, row in enumerate(rows, start=1):
        if len(row) > ROW_LIMIT:
            raise TooLong(line, ROW_LIMIT + 1)
    return rows


def check_letters(row, line):
    """Refuse a row with a character that is not allowed."""
    for column, letter in enumerate(row, start=1):
        if not is_row(letter):
            raise BadSign(line, column)


def spaces_end(row, start):
    """Return the index behind the spaces that begin at this index."""
    stop = start
    while stop < len(row) and row[stop] == " ":
        stop += 1
    return stop


def layout(marks):
    """Write a list of tokens as a text, one row for each logical line."""
    rows = []
    words = []
    depth = 0
    for mark in marks:
        kind = mark[0]
        if kind == "indent":
            depth += 1
        elif kind == "dedent":
            depth -= 1
        elif kind == "newline":
            rows.append("    " * depth + " ".join(words) + "\n")
            words = []
        elif kind != "end":
            words.append(written(kind, mark[1]))
    return "".join(rows)


def written(kind, word):
    """Write the word of a token as it stands in a text."""
    if kind == "text":
        return quoted(word)
    return str(word)
