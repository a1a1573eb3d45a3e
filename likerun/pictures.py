"""What can be seen of a memory: the measure of objects, and their pictures."""

from likerun.memory import address_of
from likerun.showing import object_name, plain_word
from likerun.values import UNSET

# The words of the entries that may refer to an object.
REFERRING = {"ref": True, "handled": True, "pending": True}


def visible_slots(memory, value):
    """Return the slots of an object that can be seen."""
    slots = memory.slots_of(value)
    if memory.kind_of(value) != "generator":
        return slots
    state, _, _, names, _ = memory.tag_of(value)
    if state in ("new", "waiting"):
        return slots[:len(names)]
    return []


def visible_objects(memory, entries):
    """Return the objects that can be reached from the entries through visible slots, breadth first."""
    met = {}
    found = []
    meet_visible(entries, met, found)
    at = 0
    while at < len(found):
        meet_visible(visible_slots(memory, found[at]), met, found)
        at += 1
    return found


def meet_visible(entries, met, found):
    """Put the objects of entries that are not yet met behind the others."""
    for entry in entries:
        # Most entries are plain; they are left out at once, because each step asks for the measure.
        if entry[0] in REFERRING:
            address = address_of(entry)
            if address is not None and address not in met:
                met[address] = True
                found.append(("ref", address))


def measure(memory, entries):
    """Return the sum of the sizes of the objects that can be reached from the entries."""
    return sum([size_of(memory, value) for value in visible_objects(memory, entries)])


def size_of(memory, value):
    """Return the size of an object."""
    kind = memory.kind_of(value)
    if kind == "iterator":
        return 3
    if kind == "generator":
        return 2 + len(memory.tag_of(value)[3])
    return 2 + len(memory.slots_of(value))


def draw(memory, names):
    """Return the words of named entries, and a row for each object that can be reached from them."""
    values = visible_objects(memory, [entry for _, entry in names])
    numbers = {value[1]: at + 1 for at, value in enumerate(values)}
    shown = [(name, word_of(entry, numbers)) for name, entry in names]
    return shown, [object_row(memory, value, numbers) for value in values]


def object_row(memory, value, numbers):
    """Return the row of an object."""
    words = [word_of(value, numbers), memory.kind_of(value)] + labels(memory, value)
    words += [word_of(slot, numbers) for slot in visible_slots(memory, value)]
    return " ".join(words)


def word_of(entry, numbers):
    """Return the word of an entry."""
    if entry == UNSET:
        return "unset"
    if entry[0] == "ref":
        return "#" + str(numbers[entry[1]])
    return plain_word(entry)


def labels(memory, value):
    """Return the label of an object in a list; it is empty if it has none."""
    kind = memory.kind_of(value)
    tag = memory.tag_of(value)
    if kind in ("function", "method"):
        return [object_name(memory, value)]
    if kind == "class":
        return [tag[0], in_brackets(tag[1])]
    if kind == "instance":
        return [in_brackets(tag[0])]
    if kind == "iterator":
        return ["ended" if tag[0] < 0 else str(tag[0])]
    if kind == "generator":
        return generator_labels(tag)
    return []


def generator_labels(tag):
    """Return the parts of the label of a generator."""
    state, name, line, names, _ = tag
    if state in ("new", "waiting"):
        return [name, state, str(line), in_brackets(names)]
    return [name, state]


def in_brackets(names):
    """Write names in round brackets."""
    return "(" + " ".join(list(names)) + ")"
