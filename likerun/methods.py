"""The methods of lists, dicts and texts."""

from likerun.errors import Fault
from likerun.operations import found_key_index, index_of, key_index, take_item, take_key
from likerun.sizes import ITEM_LIMIT, check_size, list_value, text_value
from likerun.values import NONE, kind_word


def need_texts(values):
    """Refuse values of which one is no text."""
    if not all([value[0] == "text" for value in values]):
        raise Fault("KindError", NONE)


def need_items(memory, value):
    """Return the items of a list or tuple."""
    if kind_word(memory, value) not in ("list", "tuple"):
        raise Fault("KindError", NONE)
    return memory.slots_of(value)


def list_append(memory, a, given):
    """Put a value behind the items of a list."""
    put_items_in(memory, a, memory.slots_of(a) + given)
    return NONE


def put_items_in(memory, a, items):
    """Give a list other items, if they are not too many."""
    check_size(len(items), ITEM_LIMIT)
    memory.change(a, None, items)


def list_extend(memory, a, given):
    """Put the items of a list or tuple behind those of a list."""
    put_items_in(memory, a, memory.slots_of(a) + need_items(memory, given[0]))
    return NONE


def list_insert(memory, a, given):
    """Put a value before an index of a list."""
    index, value = given
    if index[0] != "number":
        raise Fault("KindError", NONE)
    items = memory.slots_of(a)
    at = index[1]
    if at < 0:
        at += len(items)
    at = max(0, min(at, len(items)))
    put_items_in(memory, a, items[:at] + [value] + items[at:])
    return NONE


def list_pop(memory, a, given):
    """Remove the last item of a list, or the one at an index, and return it."""
    if given:
        return take_item(memory, a, given[0])
    return take_item(memory, a, ("number", -1))


def list_index(memory, a, given):
    """Return the index of the first item that is a value or equal to it."""
    at = index_of(memory, memory.slots_of(a), given[0])
    if at is None:
        raise Fault("ValueError", NONE)
    return ("number", at)


def list_reverse(memory, a, given):
    """Turn the order of the items of a list."""
    memory.change(a, None, memory.slots_of(a)[::-1])
    return NONE


def dict_get(memory, a, given):
    """Return the value of a key, or none, or another value."""
    at = key_index(memory, a, given[0])
    if at is not None:
        return memory.slot(a, at + 1)
    return given[1] if len(given) == 2 else NONE


def dict_pop(memory, a, given):
    """Remove a key and return its value, or another value if there is no such key."""
    if len(given) == 1:
        return take_key(memory, a, found_key_index(memory, a, given[0]))
    at = key_index(memory, a, given[0])
    if at is None:
        return given[1]
    return take_key(memory, a, at)


def dict_keys(memory, a, given):
    """Return a new list of the keys."""
    return memory.make("list", None, memory.slots_of(a)[::2])


def dict_values(memory, a, given):
    """Return a new list of the values."""
    return memory.make("list", None, memory.slots_of(a)[1::2])


def dict_items(memory, a, given):
    """Return a new list of new tuples of a key and its value."""
    slots = memory.slots_of(a)
    pairs = [memory.make("tuple", None, slots[at:at + 2]) for at in range(0, len(slots), 2)]
    return memory.make("list", None, pairs)


def text_upper(memory, a, given):
    """Return a text in capital letters."""
    return ("text", a[1].upper())


def text_lower(memory, a, given):
    """Return a text in small letters."""
    return ("text", a[1].lower())


def text_split(memory, a, given):
    """Return the list of the parts of a text between the occurrences of another one."""
    need_texts(given)
    if given[0][1] == "":
        raise Fault("ValueError", NONE)
    return list_value(memory, "list", [("text", part) for part in a[1].split(given[0][1])])


def text_join(memory, a, given):
    """Return texts joined with a text between them."""
    items = need_items(memory, given[0])
    need_texts(items)
    return text_value(a[1].join([item[1] for item in items]))


def text_find(memory, a, given):
    """Return the first index at which another text stands in a text, or -1."""
    need_texts(given)
    return ("number", a[1].find(given[0][1]))


# The function for each method, with the least and the greatest number of its arguments.
LIST_METHODS = {
    "append": (list_append, 1, 1),
    "extend": (list_extend, 1, 1),
    "insert": (list_insert, 2, 2),
    "pop": (list_pop, 0, 1),
    "index": (list_index, 1, 1),
    "reverse": (list_reverse, 0, 0),
}
DICT_METHODS = {
    "get": (dict_get, 1, 2),
    "pop": (dict_pop, 1, 2),
    "keys": (dict_keys, 0, 0),
    "values": (dict_values, 0, 0),
    "items": (dict_items, 0, 0),
}
TEXT_METHODS = {
    "upper": (text_upper, 0, 0),
    "lower": (text_lower, 0, 0),
    "split": (text_split, 1, 1),
    "join": (text_join, 1, 1),
    "find": (text_find, 1, 1),
}


def method_row(kind, name):
    """Return the function for a method of this kind of value, and the numbers of its arguments."""
    if kind == "list":
        return LIST_METHODS[name]
    if kind == "dict":
        return DICT_METHODS[name]
    return TEXT_METHODS[name]
