"""What the instructions take from the top of the stack and put there.

The letters: v a value, i an iterator, h an error that is being handled, p a pending way to leave, c a cell, a any.
"""

from likerun.forms import defaults_of, listed

# What stands on top, how many entries of it are taken, and what is put there instead.
ROWS = {
    "line": ("", 0, ""),
    "push": ("", 0, "v"),
    "pop": ("a", 1, ""),
    "copy": ("v", 0, "v"),
    "copy_two": ("vv", 0, "vv"),
    "swap": ("vv", 0, ""),
    "lift": ("vvv", 0, ""),
    "jump": ("", 0, ""),
    "jump_true": ("v", 1, ""),
    "jump_false": ("v", 1, ""),
    "keep_true": ("v", 1, ""),
    "keep_false": ("v", 1, ""),
    "load": ("", 0, "v"),
    "store": ("v", 1, ""),
    "delete": ("", 0, ""),
    "load_cell": ("", 0, "v"),
    "store_cell": ("v", 1, ""),
    "delete_cell": ("", 0, ""),
    "push_cell": ("", 0, "c"),
    "load_global": ("", 0, "v"),
    "store_global": ("v", 1, ""),
    "delete_global": ("", 0, ""),
    "load_field": ("v", 1, "v"),
    "store_field": ("vv", 2, ""),
    "delete_field": ("v", 1, ""),
    "load_item": ("vv", 2, "v"),
    "store_item": ("vvv", 3, ""),
    "delete_item": ("vv", 2, ""),
    "load_slice": ("vvvv", 4, "v"),
    "unary": ("v", 1, "v"),
    "binary": ("vv", 2, "v"),
    "compare": ("vv", 2, "v"),
    "append_item": ("vv", 2, ""),
    "return": ("v", 1, ""),
    "yield": ("v", 1, "v"),
    "get_iterator": ("v", 1, "i"),
    "fetch": ("i", 1, "iv"),
    "match": ("hv", 1, "v"),
    "load_handled": ("h", 0, "v"),
    "drop_handled": ("h", 1, ""),
    "again": ("h", 1, ""),
    "hold": ("h", 1, ""),
    "end_finally": ("p", 1, ""),
    "enter_with": ("v", 0, "v"),
    "call_leave": ("vp", 0, "v"),
    "end_with": ("vpv", 3, ""),
    "leave_inline": ("v", 1, "v"),
    "cut": ("", 0, ""),
}
LETTERS = {"v": "value", "i": "iterator", "h": "handled", "c": "cell"}


def row_of(codes, instruction):
    """Return how many values, with a row above them, an instruction wants, and the row: wanted, taken and put."""
    word = instruction[0]
    if word in ROWS:
        return 0, ROWS[word]
    if word == "unpack":
        return 0, ("v", 1, "v" * instruction[1])
    if word == "leave":
        return 0, ("v" if instruction[2] == 1 else "", 0, "")
    many = count_values(codes, instruction)
    if word == "make_function":
        cells = len(listed(codes[instruction[1]].free))
        return many, ("c" * cells, many + cells, "v")
    if word == "guard":
        return many, ("", 0, "")
    if word in ("raise", "enter_inline"):
        return many, ("", many, "")
    return many, ("", many, "v")


def count_values(codes, instruction):
    """Return how many values an instruction takes whose operands tell their number."""
    word = instruction[0]
    if word == "make_dict":
        return 2 * instruction[1]
    if word == "make_class":
        return 1 + len(instruction[2])
    if word == "call":
        return 1 + instruction[1] + len(instruction[2])
    if word == "guard":
        return 1 + instruction[2]
    if word == "enter_inline":
        return 1 + len(listed(codes[instruction[1]].parameters))
    if word == "make_function":
        return defaults_of(codes[instruction[1]])
    # make_tuple, make_list, raise
    return instruction[1]


def fits_top(kinds, values, letters):
    """Tell whether so many values, and what the letters tell above them, stand on top of a stack."""
    first = len(kinds) - values - len(letters)
    if first < 0:
        return False
    if not all([kind == "value" for kind in kinds[first:first + values]]):
        return False
    return all([fits_letter(kind, letter) for kind, letter in zip(kinds[first + values:], letters)])


def fits_letter(kind, letter):
    """Tell whether a kind of entry is the one of a letter."""
    if letter == "p":
        return kind[0] == "pending"
    return letter == "a" or kind == LETTERS[letter]
