"""The objects of a saved run: whether they are such as a run can have."""

from likerun.activation import MARKS, own_places, told_entry
from likerun.errors import BadSave
from likerun.fields import METHODS, is_class, is_error
from likerun.forms import is_names, is_natural, is_plain, is_string
from likerun.memory import Store, moved
from likerun.options import is_between, is_integer
from likerun.sizes import FIELD_LIMIT, ITEM_LIMIT, KEY_LIMIT
from likerun.values import NONE, UNSET, is_kind, key_of, kind_word

POSITION_LIMIT = 1000000000


def need(condition):
    """Refuse a saved run if a condition does not hold."""
    if not condition:
        raise BadSave("a text that no run has written")


def is_tuple(datum, many):
    """Tell whether a datum is a tuple of so many parts."""
    return isinstance(datum, tuple) and len(datum) == many


def is_reference(entry, many):
    """Tell whether an entry refers to one of so many objects."""
    return is_tuple(entry, 2) and entry[0] == "ref" and is_between(entry[1], 0, many - 1)


def is_saved_value(entry, many):
    """Tell whether an entry is a value, where there are so many objects."""
    return is_reference(entry, many) or is_plain(entry)


def is_saved_entry(entry, many):
    """Tell whether an entry is a value or a mark."""
    if is_tuple(entry, 2) and entry[0] == "handled":
        return is_between(entry[1], 0, many - 1)
    if is_tuple(entry, 3) and entry[0] == "pending":
        inner = entry[2]
        if entry[1] == 4 and is_integer(entry[1]):
            return is_tuple(inner, 2) and inner[0] == "handled" and is_saved_entry(inner, many)
        if not is_between(entry[1], 0, 3):
            return False
        return is_saved_value(inner, many) if entry[1] == 1 else inner == NONE
    return entry == UNSET or is_saved_value(entry, many)


def is_places(trace):
    """Tell whether a datum is a tuple of names of units and lines."""
    return isinstance(trace, tuple) and all([is_place(place) for place in trace])


def is_place(place):
    """Tell whether a datum is the name of a unit and a line."""
    return is_tuple(place, 2) and isinstance(place[0], str) and is_integer(place[1])


class Vetting:
    """Puts the objects of a saved run into a machine's heap, and asks what they hold."""

    def __init__(self, machine):
        self.units = machine.units
        self.shapes = machine.shapes
        self.heap = machine.heap
        # The addresses of the objects by their numbers.
        self.table = {}

    def put(self, objects):
        """Put the objects into the heap, and ask for the forms of what they hold."""
        need(isinstance(objects, tuple))
        many = len(objects)
        self.table = {number: 2 * number + 1 for number in range(many)}
        for thing in objects:
            need(is_tuple(thing, 3) and isinstance(thing[0], str) and thing[0] in Store.KINDS)
            kind, tag, slots = thing
            need(isinstance(slots, tuple) and all([is_saved_entry(entry, many) for entry in slots]))
            if kind not in ("cell", "generator"):
                need(all([is_saved_value(entry, many) for entry in slots]))
            self.heap.make(kind, tag, [moved(entry, self.table) for entry in slots])

    def references(self):
        """Return the references to all objects."""
        return [("ref", address) for address in self.table.values()]

    def ask_objects(self):
        """Refuse objects that no run can have."""
        kinds = {value: self.heap.kind_of(value) for value in self.references()}
        for value in kinds:
            if kinds[value] != "generator":
                action = ASKING[kinds[value]]
                need(action(self, value))
        for value in kinds:
            if kinds[value] == "class":
                need(has_end(self.heap, value, len(kinds)))
        # What a generator holds may be an error, and whether it is one is told by sound classes.
        for value in kinds:
            if kinds[value] == "generator":
                need(is_sound_generator(self, value))

    def fits(self, entry, kind):
        """Tell whether an entry of a memory is of a kind that the checker tells for a stack."""
        word = entry[0]
        if kind == "value":
            return word not in MARKS
        if kind == "iterator":
            return word == "ref" and kind_word(self.heap, entry) in ("iterator", "generator")
        if kind == "cell":
            return is_kind(self.heap, entry, "cell")
        if kind == "handled":
            return word == "handled" and is_error(self.heap, ("ref", entry[1]))
        if word != "pending" or entry[1] not in kind[1]:
            return False
        return entry[1] != 4 or is_error(self.heap, ("ref", entry[2][1]))

    def fit_all(self, entries, kinds):
        """Tell whether entries are of the kinds that the checker tells for a stack."""
        if len(entries) != len(kinds):
            return False
        return all([self.fits(entry, kind) for entry, kind in zip(entries, kinds)])

    def is_free(self, entry):
        """Tell whether an entry is a value or unset."""
        return entry == UNSET or entry[0] not in MARKS

    def renumbered(self, entry):
        """Return an entry of a saved stack with the address of its object."""
        told = moved(told_entry(entry), self.table)
        return (entry[0], told[1]) if entry[0] in ("iterator", "cell") else told


def has_end(heap, cls, many):
    """Tell whether the chain of a class, of which there are no more than so many, ends."""
    for _ in range(many + 1):
        if cls[0] != "ref":
            return True
        cls = heap.slot(cls, 0)
    return False


def is_sound_sequence(vetting, value):
    """Tell whether a list or tuple is such as a run can have."""
    heap = vetting.heap
    return heap.tag_of(value) is None and len(heap.slots_of(value)) <= ITEM_LIMIT


def is_sound_dict(vetting, value):
    """Tell whether a dict is such as a run can have."""
    slots = vetting.heap.slots_of(value)
    if vetting.heap.tag_of(value) is not None or len(slots) % 2 == 1 or len(slots) > 2 * KEY_LIMIT:
        return False
    keys = [key_of(vetting.heap, key) for key in slots[::2]]
    return None not in keys and len({key: True for key in keys}) == len(keys)


def is_sound_cell(vetting, value):
    """Tell whether a cell is such as a run can have."""
    slots = vetting.heap.slots_of(value)
    return vetting.heap.tag_of(value) is None and len(slots) == 1 and vetting.is_free(slots[0])


def is_sound_function(vetting, value):
    """Tell whether a function is such as a run can have."""
    tag = vetting.heap.tag_of(value)
    if not is_tuple(tag, 2) or not is_between(tag[0], 0, len(vetting.units) - 1):
        return False
    unit = vetting.units[tag[0]]
    slots = vetting.heap.slots_of(value)
    if tag[1] != unit.name or len(slots) != unit.defaults + len(unit.free):
        return False
    return all([is_kind(vetting.heap, cell, "cell") for cell in slots[unit.defaults:]])


def is_sound_method(vetting, value):
    """Tell whether a method is such as a run can have."""
    heap = vetting.heap
    tag = heap.tag_of(value)
    slots = heap.slots_of(value)
    if not is_string(tag) or len(slots) not in (1, 2):
        return False
    if len(slots) == 2:
        return is_kind(heap, slots[0], "instance") and is_kind(heap, slots[1], "function")
    return tag in METHODS.get(kind_word(heap, slots[0]), ())


def is_sound_class(vetting, value):
    """Tell whether a class is such as a run can have, but for the end of its chain."""
    heap = vetting.heap
    tag = heap.tag_of(value)
    slots = heap.slots_of(value)
    if not is_tuple(tag, 2) or not is_string(tag[0]) or not is_names(tag[1]) or len(slots) != 1 + len(tag[1]):
        return False
    return slots[0] == NONE or is_class(heap, slots[0])


def is_sound_instance(vetting, value):
    """Tell whether an instance is such as a run can have."""
    heap = vetting.heap
    tag = heap.tag_of(value)
    slots = heap.slots_of(value)
    if not is_tuple(tag, 2) or not is_names(tag[0]) or not is_places(tag[1]) or len(slots) != 1 + len(tag[0]):
        return False
    # The cause of an error is set however many attributes there are.
    limit = FIELD_LIMIT + 1 if "cause" in tag[0] else FIELD_LIMIT
    return len(tag[0]) <= limit and is_class(heap, slots[0])


def is_sound_iterator(vetting, value):
    """Tell whether an iterator is such as a run can have."""
    heap = vetting.heap
    tag = heap.tag_of(value)
    slots = heap.slots_of(value)
    if not is_tuple(tag, 2) or not is_between(tag[0], -1, POSITION_LIMIT) or not is_between(tag[1], 0, POSITION_LIMIT):
        return False
    return len(slots) == 1 and kind_word(heap, slots[0]) in ("list", "tuple", "text", "dict")


def is_sound_generator(vetting, value):
    """Tell whether a generator is such as a run can have, but for the frame of a running one."""
    tag = vetting.heap.tag_of(value)
    if not is_tuple(tag, 5) or not is_natural(tag[2]) or not is_tuple(tag[4], 3):
        return False
    state, name, _, names, rest = tag
    if not is_between(rest[0], 0, len(vetting.units) - 1):
        return False
    unit = vetting.units[rest[0]]
    if not unit.yields or name != unit.name or names != unit.slots + unit.free:
        return False
    slots = vetting.heap.slots_of(value)
    if state == "waiting":
        return is_waiting(vetting, rest, slots)
    if not is_between(rest[1], 0, 0) or rest[2] != "":
        return False
    if state == "new":
        return tag[2] == unit.line and fits_kept(vetting, unit, slots, ())
    return state in ("running", "ended") and slots == []


def is_waiting(vetting, rest, slots):
    """Tell whether what a waiting generator keeps fits the instruction at which it waits."""
    number, behind, letters = rest
    unit = vetting.units[number]
    if not is_between(behind, 1, len(unit.instructions)):
        return False
    state = vetting.shapes[number][behind - 1]
    if unit.instructions[behind - 1][0] != "yield" or state is None:
        return False
    kinds = state[0][:-1]
    return letters == letters_of(kinds) and fits_kept(vetting, unit, slots, kinds)


def letters_of(kinds):
    """Return the letters of kinds that the checker tells, each the first one of its word."""
    return "".join(["p" if kind[0] == "pending" else kind[0] for kind in kinds])


def fits_kept(vetting, unit, slots, kinds):
    """Tell whether the entries of names, places of their own and a stack are such as a generator can keep."""
    names = unit.slots + unit.free
    behind = len(names) + len(own_places(unit))
    if len(slots) < behind:
        return False
    for name, entry in zip(names, slots):
        if name in unit.cells or name in unit.free:
            if not is_kind(vetting.heap, entry, "cell"):
                return False
        elif not vetting.is_free(entry):
            return False
    own = slots[len(names):behind]
    return all([vetting.is_free(entry) for entry in own]) and vetting.fit_all(slots[behind:], kinds)


ASKING = {
    "list": is_sound_sequence,
    "tuple": is_sound_sequence,
    "dict": is_sound_dict,
    "cell": is_sound_cell,
    "function": is_sound_function,
    "method": is_sound_method,
    "class": is_sound_class,
    "instance": is_sound_instance,
    "iterator": is_sound_iterator,
}
