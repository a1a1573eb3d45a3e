"""The characters of source texts and data notes."""

# The number of the percent sign, which the language leaves out.
PERCENT = 37


def is_row(text):
    """Tell whether a row of a source text may hold all the characters of a string."""
    if not text.isascii() or not text.isprintable():
        return False
    return PERCENT not in [ord(sign) for sign in text]


def is_letter(sign):
    """Tell whether a name may begin with this character."""
    return "a" <= sign <= "z" or "A" <= sign <= "Z" or sign == "_"


def is_digit(sign):
    """Tell whether this character is one of the ten digits."""
    return "0" <= sign <= "9"


def digits_end(text, start):
    """Return the index behind the digits that begin at this index."""
    stop = start
    while stop < len(text) and is_digit(text[stop]):
        stop += 1
    return stop


def name_end(text, start):
    """Return the index behind the letters and digits that begin at this index."""
    stop = start
    while stop < len(text) and (is_letter(text[stop]) or is_digit(text[stop])):
        stop += 1
    return stop


def quoted(text):
    """Write a string in double quotes with its escapes."""
    # The backslash goes first: the other escapes bring new ones.
    inner = text.replace("\\", "\\\\").replace("\"", "\\\"").replace("\n", "\\n")
    return "\"" + inner + "\""


def is_source(text):
    """Tell whether a source text may hold all the characters of a string, line feeds included."""
    return is_row(text.replace("\n", " "))
