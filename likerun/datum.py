"""Data notes: data written as one line, and read again."""

from likerun.errors import BadDatum
from likerun.letters import digits_end, is_digit, is_row, quoted

DIGIT_LIMIT = 80
DEPTH_LIMIT = 60
ESCAPES = {"n": "\n", "\\": "\\", "\"": "\""}


def write_datum(datum):
    """Write a datum as one line."""
    if datum is None:
        return "none"
    if datum is True:
        return "true"
    if datum is False:
        return "false"
    if isinstance(datum, int):
        return str(datum)
    if isinstance(datum, str):
        return quoted(datum)
    return "(" + " ".join([write_datum(item) for item in datum]) + ")"


def read_datum(text):
    """Read what write_datum writes; every other string raises BadDatum."""
    if not is_row(text):
        raise BadDatum("a character that no datum note holds")
    datum, stop = read_part(text, 0, 0)
    if stop != len(text):
        raise BadDatum("a rest behind the datum")
    return datum


def read_part(text, start, depth):
    """Read the datum at this index, within so many tuples: it and the index behind it."""
    sign = text[start:start + 1]
    if sign == "(":
        return read_items(text, start, depth)
    if sign == "\"":
        return read_text(text, start)
    if sign == "-" or is_digit(sign):
        return read_number(text, start)
    return read_word(text, start)


def read_items(text, start, depth):
    """Read the tuple at this index: it and the index behind it."""
    if depth == DEPTH_LIMIT:
        raise BadDatum("too many tuples within each other")
    items = []
    at = start + 1
    while text[at:at + 1] != ")":
        if items:
            at = behind_space(text, at)
        item, at = read_part(text, at, depth + 1)
        items.append(item)
    return tuple(items), at + 1


def behind_space(text, at):
    """Return the index behind the space that stands at this index."""
    if text[at:at + 1] != " ":
        raise BadDatum("no space behind an item")
    return at + 1


def read_text(text, start):
    """Read the string at this index: it and the index behind it."""
    stop = text.find("\"", start + 1)
    if stop < 0:
        raise BadDatum("a string without its closing quote")
    inner = text[start + 1:stop]
    if "\\" not in inner:
        return inner, stop + 1
    return read_escaped(text, start)


def read_escaped(text, start):
    """Read a string with escapes, where a quote may be one of them."""
    parts = []
    at = start + 1
    while text[at:at + 1] != "\"":
        sign = text[at:at + 1]
        if sign == "\\":
            at += 1
            sign = ESCAPES.get(text[at:at + 1], "")
        if sign == "":
            raise BadDatum("another escape, or no closing quote")
        parts.append(sign)
        at += 1
    return "".join(parts), at + 1


def read_number(text, start):
    """Read the integer at this index: it and the index behind it."""
    first = start
    if text[start] == "-":
        first = start + 1
    stop = digits_end(text, first)
    # The length is asked before int is: Python does not convert very many digits.
    if stop == first or stop - first > DIGIT_LIMIT:
        raise BadDatum("no digits, or too many")
    if text[first] == "0" and (stop - first > 1 or first > start):
        raise BadDatum("a zero in front of an integer, or behind a minus")
    return int(text[start:stop]), stop


def read_word(text, start):
    """Read none, true or false at this index: its datum and the index behind it."""
    if text.startswith("none", start):
        return None, start + 4
    if text.startswith("true", start):
        return True, start + 4
    if text.startswith("false", start):
        return False, start + 5
    raise BadDatum("no datum begins like this")
