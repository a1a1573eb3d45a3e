"""The binding of arguments, and the calls of builtin functions and of the methods of values."""

from likerun.errors import Fault
from likerun.fields import container_items, fetch, get_iterator, is_class, is_within
from likerun.letters import digits_end
from likerun.methods import method_row
from likerun.showing import show, text_of
from likerun.sizes import DIGIT_LIMIT, ITEM_LIMIT, check_size, list_value, text_value
from likerun.values import NONE, is_kind, kind_word, ordered


def bind(memory, unit, function, given, named):
    """Return the values of a unit's parameters for the arguments of a call."""
    names = unit.parameters
    if len(given) > len(names):
        raise Fault("KindError", NONE)
    values = dict(zip(names, given))
    for name, value in named:
        if name in values or name not in names:
            raise Fault("KindError", NONE)
        values[name] = value
    first = len(names) - unit.defaults
    for name, value in zip(names[first:], memory.slots_of(function)):
        values.setdefault(name, value)
    if len(values) < len(names):
        raise Fault("KindError", NONE)
    return [values[name] for name in names]


def call_builtin(memory, name, given):
    """Return the value of a call of a builtin function that needs no run."""
    action, least, greatest = ACTIONS[name]
    check_many(given, least, greatest)
    return action(memory, given)


def call_native(memory, name, self_value, given):
    """Return the value of a call of a method of a list, dict or text."""
    action, least, greatest = method_row(kind_word(memory, self_value), name)
    check_many(given, least, greatest)
    return action(memory, self_value, given)


def check_many(given, least, greatest):
    """Refuse a number of arguments that is out of a range, which may have no upper end."""
    if len(given) < least or greatest is not None and len(given) > greatest:
        raise Fault("KindError", NONE)


def need_numbers(values):
    """Refuse values of which one is no number."""
    if not all([value[0] == "number" for value in values]):
        raise Fault("KindError", NONE)


def call_len(memory, given):
    """Return the number of the items or characters."""
    items = container_items(memory, given[0])
    if items is None:
        raise Fault("KindError", NONE)
    return ("number", len(items))


def call_range(memory, given):
    """Return the list of the numbers from one to another."""
    need_numbers(given)
    ends = [value[1] for value in given]
    low, high = ends[:2] if len(ends) > 1 else (0, ends[0])
    step = ends[2] if len(ends) == 3 else 1
    if step == 0:
        raise Fault("ValueError", NONE)
    # The size is asked before the numbers are made: there may be very many.
    if step > 0:
        many = (high - low + step - 1) // step
    else:
        many = (low - high - step - 1) // -step
    check_size(many, ITEM_LIMIT)
    return memory.make("list", None, [("number", n) for n in range(low, high, step)])


def call_str(memory, given):
    """Return a text itself, or what shows another value."""
    return text_value(text_of(memory, given[0]))


def call_repr(memory, given):
    """Return what shows a value."""
    return text_value(show(memory, given[0]))


def call_kind(memory, given):
    """Return the word for the kind of a value."""
    return ("text", kind_word(memory, given[0]))


def call_int(memory, given):
    """Return the number for a number, a truth or a text."""
    value = given[0]
    if value[0] == "number":
        return value
    if value[0] == "truth":
        return ("number", 1 if value[1] else 0)
    if value[0] != "text":
        raise Fault("KindError", NONE)
    word = value[1]
    digits = word[1:] if word.startswith("-") else word
    if not 1 <= len(digits) <= DIGIT_LIMIT or digits_end(digits, 0) < len(digits):
        raise Fault("ValueError", NONE)
    return ("number", int(word))


def call_abs(memory, given):
    """Return a number without its sign."""
    need_numbers(given)
    return ("number", abs(given[0][1]))


def call_min(memory, given):
    """Return the first value such that no other is less."""
    return best_of(memory, "<", given)


def call_max(memory, given):
    """Return the first value such that no other is greater."""
    return best_of(memory, ">", given)


def best_of(memory, op, given):
    """Return the best of the values, or of the items of a list or tuple."""
    values = given
    if len(given) == 1:
        if kind_word(memory, given[0]) not in ("list", "tuple"):
            raise Fault("KindError", NONE)
        values = memory.slots_of(given[0])
    if not values:
        raise Fault("ValueError", NONE)
    best = values[0]
    for value in values[1:]:
        if ordered(memory, op, value, best):
            best = value
    return best


def call_list(memory, given):
    """Return a new list."""
    return gathered(memory, "list", given)


def call_tuple(memory, given):
    """Return a new tuple."""
    return gathered(memory, "tuple", given)


def gathered(memory, kind, given):
    """Return a new list or tuple of the items of a value, if one is given."""
    items = []
    if given:
        items = container_items(memory, given[0])
        if items is None:
            raise Fault("KindError", NONE)
    return list_value(memory, kind, items)


def call_isinstance(memory, given):
    """Tell whether a value is an instance of a class, or of one of a tuple of classes."""
    value, wanted = given
    classes = [wanted]
    if is_kind(memory, wanted, "tuple"):
        classes = memory.slots_of(wanted)
    if not all([is_class(memory, cls) for cls in classes]):
        raise Fault("KindError", NONE)
    if not is_kind(memory, value, "instance"):
        return ("truth", False)
    cls = memory.slot(value, 0)
    return ("truth", any([is_within(memory, cls, other) for other in classes]))


def call_iter(memory, given):
    """Return an iterator over a value."""
    return get_iterator(memory, given[0])


def call_next(memory, given):
    """Return the next item of an iterator, or another value if there is none."""
    if not is_kind(memory, given[0], "iterator"):
        raise Fault("KindError", NONE)
    item = fetch(memory, given[0])
    if item is not None:
        return item
    if len(given) == 2:
        return given[1]
    raise Fault("StopError", NONE)


# The function for each builtin function, with the least and the greatest number of its arguments, if there is one.
ACTIONS = {
    "len": (call_len, 1, 1),
    "range": (call_range, 1, 3),
    "str": (call_str, 1, 1),
    "repr": (call_repr, 1, 1),
    "kind": (call_kind, 1, 1),
    "int": (call_int, 1, 1),
    "abs": (call_abs, 1, 1),
    "min": (call_min, 1, None),
    "max": (call_max, 1, None),
    "list": (call_list, 0, 1),
    "tuple": (call_tuple, 0, 1),
    "isinstance": (call_isinstance, 2, 2),
    "iter": (call_iter, 1, 1),
    "next": (call_next, 1, 2),
}
