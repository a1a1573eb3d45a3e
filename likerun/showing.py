"""Values shown as strings."""

from likerun.errors import Fault
from likerun.fields import is_error, own_field
from likerun.letters import quoted
from likerun.sizes import TEXT_LIMIT
from likerun.values import NONE, kind_word

NEST_LIMIT = 30
BRACKETS = {"list": "[]", "tuple": "()", "dict": "{}"}


class Slate:
    """Gathers a string that has a limit, and knows the objects that are being shown."""

    def __init__(self):
        self.pieces = []
        self.left = TEXT_LIMIT
        self.inside = []

    def put(self, text):
        """Put a piece behind the others."""
        self.claim(len(text))
        self.pieces.append(text)

    def put_quoted(self, text):
        """Put a text in double quotes behind the other pieces."""
        # The length is asked before the piece is made.
        extra = text.count("\\") + text.count("\"") + text.count("\n")
        self.claim(len(text) + extra + 2)
        self.pieces.append(quoted(text))

    def claim(self, size):
        """Take so many characters of those that are left."""
        if size > self.left:
            raise Fault("SizeError", NONE)
        self.left -= size

    def enter(self, value):
        """Note that an object is being shown."""
        if len(self.inside) == NEST_LIMIT:
            raise Fault("SizeError", NONE)
        self.inside.append(value)


def text_of(memory, value):
    """Return a text itself, and show any other value."""
    if value[0] == "text":
        return value[1]
    return show(memory, value)


def show(memory, value):
    """Show a value."""
    slate = Slate()
    put_value(memory, value, slate)
    return "".join(slate.pieces)


def put_value(memory, value, slate):
    """Show a value on a slate."""
    kind = kind_word(memory, value)
    if value in slate.inside:
        slate.put("...")
    elif kind == "text":
        slate.put_quoted(value[1])
    elif kind in BRACKETS:
        put_items(memory, value, slate)
    elif is_error(memory, value):
        put_error(memory, value, slate)
    elif value[0] == "ref":
        slate.put(object_word(memory, value))
    else:
        slate.put(plain_word(value))


def put_items(memory, value, slate):
    """Show a list, a tuple or a dict."""
    kind = memory.kind_of(value)
    slots = memory.slots_of(value)
    slate.enter(value)
    slate.put(BRACKETS[kind][0])
    for at, slot in enumerate(slots):
        if at > 0:
            slate.put(": " if kind == "dict" and at % 2 == 1 else ", ")
        put_value(memory, slot, slate)
    if kind == "tuple" and len(slots) == 1:
        slate.put(",")
    slate.put(BRACKETS[kind][1])
    slate.inside.pop()


def put_error(memory, value, slate):
    """Show an instance of an error class."""
    slate.enter(value)
    slate.put(class_name(memory, memory.slot(value, 0)) + "(")
    message = own_field(memory, value, "message")
    if message is not None and message != NONE:
        put_value(memory, message, slate)
    slate.put(")")
    slate.inside.pop()


def class_name(memory, cls):
    """Return the name of a class."""
    if cls[0] == "errorclass":
        return cls[1]
    return memory.tag_of(cls)[0]


def object_word(memory, value):
    """Return the word for an object that is not shown with what it holds."""
    kind = memory.kind_of(value)
    if kind in ("iterator", "cell"):
        return "<" + kind + ">"
    if kind == "instance":
        return "<" + class_name(memory, memory.slot(value, 0)) + " object>"
    return "<" + kind + " " + object_name(memory, value) + ">"


def object_name(memory, value):
    """Return the name of a function, a method, a class or a generator."""
    tag = memory.tag_of(value)
    kind = memory.kind_of(value)
    if kind == "method":
        return tag
    if kind == "class":
        return tag[0]
    return tag[1]


def plain_word(value):
    """Return the word for a plain value, however long it is."""
    kind = value[0]
    if kind == "none":
        return "None"
    if kind == "text":
        return quoted(value[1])
    if kind == "builtin":
        return "<builtin " + value[1] + ">"
    if kind == "errorclass":
        return "<class " + value[1] + ">"
    return str(value[1])
