"""Single tokens, as they stand in a row of a source text."""

from likerun.errors import BadToken
from likerun.letters import digits_end, is_digit, is_letter, name_end

NAME_LIMIT = 30
NUMBER_LIMIT = 40
KEYWORDS = (
    "and", "as", "break", "class", "continue", "def", "del", "elif", "else", "except",
    "False", "finally", "for", "from", "global", "if", "in", "is", "lambda", "mod", "None",
    "nonlocal", "not", "or", "pass", "raise", "return", "True", "try", "while", "with", "yield",
)
# The longer signs go first, so that the longest one that stands there is found.
SIGNS = (
    "//=", "+=", "-=", "*=", "//", "==", "!=", "<=", ">=", "<", ">", "=", "+", "-", "*",
    "(", ")", "[", "]", "{", "}", ",", ":", ".",
)
ESCAPES = {"n": "\n", "\\": "\\", "'": "'", "\"": "\""}


def scan_token(row, start, line):
    """Read the token at this index of a row: its kind, its word and the index behind it."""
    sign = row[start]
    if is_letter(sign):
        return scan_name(row, start, line)
    if is_digit(sign):
        return scan_number(row, start, line)
    if sign == "\"" or sign == "'":
        return scan_text(row, start, line)
    return scan_sign(row, start, line)


def scan_name(row, start, line):
    """Read a name or a keyword."""
    stop = name_end(row, start)
    name = row[start:stop]
    if len(name) > NAME_LIMIT:
        raise BadToken(line, start + 1)
    if name in KEYWORDS:
        return "keyword", name, stop
    return "name", name, stop


def scan_number(row, start, line):
    """Read a number."""
    stop = digits_end(row, start)
    digits = row[start:stop]
    padded = len(digits) > 1 and digits[0] == "0"
    glued = stop < len(row) and is_letter(row[stop])
    if len(digits) > NUMBER_LIMIT or padded or glued:
        raise BadToken(line, start + 1)
    return "number", int(digits), stop


def scan_text(row, start, line):
    """Read a text with its quotes and escapes."""
    parts = []
    at = start + 1
    while at < len(row) and row[at] != row[start]:
        if row[at] == "\\":
            at += 1
            # A backslash at the end of the row leaves the text without its closing quote.
            if at == len(row):
                break
            if row[at] not in ESCAPES:
                raise BadToken(line, at)
            parts.append(ESCAPES[row[at]])
        else:
            parts.append(row[at])
        at += 1
    if at == len(row):
        raise BadToken(line, start + 1)
    return "text", "".join(parts), at + 1


def scan_sign(row, start, line):
    """Read the longest sign that stands there."""
    for sign in SIGNS:
        if row.startswith(sign, start):
            return "sign", sign, start + len(sign)
    raise BadToken(line, start + 1)
