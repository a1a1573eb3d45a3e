"""The sizes of values, beyond which an operation fails."""

from likerun.errors import Fault
from likerun.values import NONE

DIGIT_LIMIT = 60
TEXT_LIMIT = 500
ITEM_LIMIT = 200
KEY_LIMIT = 100
FIELD_LIMIT = 60


def is_small(n):
    """Tell whether an integer is a number of the language."""
    return abs(n) < 10 ** 60


def number_value(n):
    """Return a number, if it is not too great."""
    if not is_small(n):
        raise Fault("SizeError", NONE)
    return ("number", n)


def text_value(text):
    """Return a text, if it is not too long."""
    check_size(len(text), TEXT_LIMIT)
    return ("text", text)


def list_value(memory, kind, items):
    """Make a new list or tuple, if it has not too many items."""
    check_size(len(items), ITEM_LIMIT)
    return memory.make(kind, None, items)


def check_size(size, limit):
    """Refuse a size above the limit."""
    if size > limit:
        raise Fault("SizeError", NONE)
