"""Values: truth, equality, order, keys and kinds."""

from likerun.errors import Fault

NONE = ("none",)
UNSET = ("unset",)
# Each error class of the language and the one above it.
ERROR_CLASSES = (
    ("Error", ""),
    ("KindError", "Error"),
    ("ValueError", "Error"),
    ("NameError", "Error"),
    ("FieldError", "Error"),
    ("FindError", "Error"),
    ("ZeroError", "Error"),
    ("SizeError", "Error"),
    ("DepthError", "Error"),
    ("StopError", "Error"),
    ("CloseError", "Error"),
    ("FlowError", "Error"),
    ("RangeError", "FindError"),
    ("KeyError", "FindError"),
)
BUILTINS = (
    "print", "len", "range", "str", "repr", "int", "abs", "min", "max", "list", "tuple", "isinstance", "iter", "next",
    "take", "kind",
)
KEY_KINDS = ("none", "truth", "number", "text")
PAIR_LIMIT = 1000


class Count:
    """Counts the pairs that a comparison looks at."""

    def __init__(self):
        self.pairs = 0

    def look(self):
        """Count one pair more, up to the limit."""
        if self.pairs == PAIR_LIMIT:
            raise Fault("SizeError", NONE)
        self.pairs += 1


def is_kind(memory, value, kind):
    """Tell whether a value is an object of this kind."""
    return value[0] == "ref" and memory.kind_of(value) == kind


def kind_word(memory, value):
    """Return the word for the kind of a value."""
    if value[0] == "ref":
        return memory.kind_of(value)
    if value[0] == "errorclass":
        return "class"
    return value[0]


def is_true(memory, value):
    """Tell whether a value is true."""
    kind = kind_word(memory, value)
    if kind == "none":
        return False
    if kind in ("truth", "number", "text"):
        return bool(value[1])
    if kind in ("list", "tuple", "dict"):
        return len(memory.slots_of(value)) > 0
    return True


def is_key(memory, value):
    """Tell whether a value may be used as a key."""
    return key_of(memory, value) is not None


def key_of(memory, value):
    """Return what is the same for keys that are the same; None for a value that is no key."""
    if value[0] in KEY_KINDS:
        return value
    if is_kind(memory, value, "tuple"):
        items = memory.slots_of(value)
        if all([item[0] in KEY_KINDS for item in items]):
            return ("tuple", tuple(items))
    return None


def equal(memory, a, b):
    """Tell whether two values are equal."""
    return same(memory, a, b, Count())


def same(memory, a, b, count):
    """Tell whether two values are equal, and count the pairs that are looked at."""
    rest = [(a, b)]
    while rest:
        a, b = rest.pop()
        # A key that the other dict has not.
        if b is None:
            return False
        count.look()
        if a != b:
            inner = inner_pairs(memory, a, b)
            if inner is None:
                return False
            rest.extend(inner[::-1])
    return True


def inner_pairs(memory, a, b):
    """Return the pairs that are equal if two values are, which are not the same; None if they cannot be equal."""
    kind = kind_word(memory, a)
    if kind not in ("list", "tuple", "dict") or kind_word(memory, b) != kind:
        return None
    mine = memory.slots_of(a)
    theirs = memory.slots_of(b)
    if len(mine) != len(theirs):
        return None
    if kind == "dict":
        return dict_pairs(memory, mine, theirs)
    return list(zip(mine, theirs))


def dict_pairs(memory, mine, theirs):
    """Return the pairs of values for the keys of one dict, with None for a key that the other has not."""
    table = {key_of(memory, theirs[at]): theirs[at + 1] for at in range(0, len(theirs), 2)}
    return [(mine[at + 1], table.get(key_of(memory, mine[at]))) for at in range(0, len(mine), 2)]


def ordered(memory, op, a, b):
    """Tell whether the order of two values is this one."""
    count = Count()
    while True:
        count.look()
        kind = kind_word(memory, a)
        if kind not in ("number", "text", "list", "tuple") or kind_word(memory, b) != kind:
            raise Fault("KindError", NONE)
        if kind in ("number", "text"):
            return holds(op, a[1], b[1])
        mine = memory.slots_of(a)
        theirs = memory.slots_of(b)
        at = first_unequal(memory, mine, theirs, count)
        if at is None:
            return holds(op, len(mine), len(theirs))
        a = mine[at]
        b = theirs[at]


def first_unequal(memory, mine, theirs, count):
    """Return the first index at which two lists of values differ, as far as both go; None if there is none."""
    for at in range(min(len(mine), len(theirs))):
        if not same(memory, mine[at], theirs[at], count):
            return at
    return None


def holds(op, a, b):
    """Tell whether the order of two integers or strings is this one."""
    if op == "<":
        return a < b
    if op == "<=":
        return a <= b
    if op == ">":
        return a > b
    return a >= b


def class_above(name):
    """Return the error class of the language above the one of this name; the empty string if there is none."""
    for below, above in ERROR_CLASSES:
        if below == name:
            return above
    return ""


def builtin_value(name):
    """Return the builtin function or the error class of this name; None if there is none."""
    if name in BUILTINS:
        return ("builtin", name)
    if name in [below for below, _ in ERROR_CLASSES]:
        return ("errorclass", name)
    return None
