"""Classes and their chains, attributes, and iterators."""

from likerun.errors import Fault
from likerun.sizes import FIELD_LIMIT, check_size
from likerun.values import NONE, class_above, is_kind, kind_word

# The methods of the values that have some.
METHODS = {
    "list": ("append", "extend", "insert", "pop", "index", "reverse"),
    "dict": ("get", "pop", "keys", "values", "items"),
    "text": ("upper", "lower", "split", "join", "find"),
    "generator": ("send", "close"),
}


def class_chain(memory, cls):
    """Return a class, its base, the base's base and so on."""
    found = []
    while cls != NONE:
        found.append(cls)
        cls = base_of(memory, cls)
    return found


def base_of(memory, cls):
    """Return the base of a class; the none value if it has none."""
    if cls[0] != "errorclass":
        return memory.slot(cls, 0)
    above = class_above(cls[1])
    if above == "":
        return NONE
    return ("errorclass", above)


def find_field(memory, cls, name):
    """Return the attribute of the first class in the chain that has it; None if none has."""
    for part in class_chain(memory, cls):
        if part[0] == "ref":
            names = memory.tag_of(part)[1]
            if name in names:
                return memory.slot(part, names.index(name) + 1)
    return None


def is_within(memory, cls, other):
    """Tell whether another class stands in the chain of a class."""
    return other in class_chain(memory, cls)


def is_class(memory, value):
    """Tell whether a value is a class, of the language or of the program."""
    return kind_word(memory, value) == "class"


def is_error_class(memory, value):
    """Tell whether a value is a class whose chain has an error class of the language."""
    return is_class(memory, value) and class_chain(memory, value)[-1][0] == "errorclass"


def is_error(memory, value):
    """Tell whether a value is an instance of an error class."""
    return is_kind(memory, value, "instance") and is_error_class(memory, memory.slot(value, 0))


def own_field(memory, a, name):
    """Return an instance's own attribute; None if it has none of this name."""
    names = memory.tag_of(a)[0]
    if name not in names:
        return None
    return memory.slot(a, names.index(name) + 1)


def put_field(memory, a, name, value):
    """Set an instance's own attribute, however many it has."""
    names, trace = memory.tag_of(a)
    if name in names:
        memory.set_slot(a, names.index(name) + 1, value)
    else:
        memory.change(a, (names + (name,), trace), memory.slots_of(a) + [value])


def load_field(memory, a, name):
    """Return the attribute of a value."""
    kind = kind_word(memory, a)
    value = None
    if kind == "instance":
        value = instance_field(memory, a, name)
    elif kind == "class":
        value = find_field(memory, a, name)
    elif name in METHODS.get(kind, ()):
        value = memory.make("method", name, [a])
    if value is None:
        raise Fault("FieldError", ("text", name))
    return value


def instance_field(memory, a, name):
    """Return an instance's own attribute, or that of its class, where a function becomes a method; None without."""
    value = own_field(memory, a, name)
    if value is None:
        value = find_field(memory, memory.slot(a, 0), name)
        if value is not None and is_kind(memory, value, "function"):
            return memory.make("method", name, [a, value])
    return value


def store_field(memory, a, name, value):
    """Set an attribute of an instance."""
    if not is_kind(memory, a, "instance"):
        raise Fault("KindError", NONE)
    names = memory.tag_of(a)[0]
    if name not in names:
        check_size(len(names) + 1, FIELD_LIMIT)
    put_field(memory, a, name, value)


def delete_field(memory, a, name):
    """Remove an attribute of an instance."""
    if not is_kind(memory, a, "instance"):
        raise Fault("KindError", NONE)
    names, trace = memory.tag_of(a)
    if name not in names:
        raise Fault("FieldError", ("text", name))
    at = names.index(name)
    slots = memory.slots_of(a)
    memory.change(a, (names[:at] + names[at + 1:], trace), slots[:at + 1] + slots[at + 2:])


def container_items(memory, a):
    """Return the items of a list, tuple or text, or the keys of a dict; None for another value."""
    kind = kind_word(memory, a)
    if kind == "text":
        return [("text", sign) for sign in a[1]]
    if kind == "dict":
        return memory.slots_of(a)[::2]
    if kind in ("list", "tuple"):
        return memory.slots_of(a)
    return None


def get_iterator(memory, a):
    """Return an iterator over a value."""
    if kind_word(memory, a) in ("iterator", "generator"):
        return a
    items = container_items(memory, a)
    if items is None:
        raise Fault("KindError", NONE)
    return memory.make("iterator", (0, len(items)), [a])


def fetch(memory, iterator):
    """Return the next item of an iterator; None if there is none."""
    position, size = memory.tag_of(iterator)
    # The position of an iterator that is used up is -1.
    if position < 0:
        return None
    container = memory.slot(iterator, 0)
    items = container_items(memory, container)
    if is_kind(memory, container, "dict") and len(items) != size:
        raise Fault("FlowError", NONE)
    item = None
    after = -1
    if position < len(items):
        item = items[position]
        after = position + 1
    memory.change(iterator, (after, size), [container])
    return item
