"""The frames of the machine: slots, cells, and a stack whose entries have strict kinds.

On a stack an iterator is ("iterator", address) and a cell ("cell", address), so that neither is taken for a value.
"""

from likerun.errors import MachineFault
from likerun.values import UNSET

# The letters of the kinds of entries that are no values.
MARKS = {"iterator": "i", "cell": "c", "handled": "h", "pending": "p", "unset": "u"}
WORDS = {"i": "iterator", "c": "cell"}


class Inlined:
    """An inlined function that is open: it counts as a frame directly inside the one in which it is."""

    def __init__(self, number, unit, first):
        self.number = number
        self.unit = unit
        self.first = first
        self.line = unit.line


class Activation:
    """A unit whose code is being run."""

    def __init__(self, number, unit, slots, cells):
        self.number = number
        self.unit = unit
        self.line = unit.line
        self.slots = slots
        self.cells = cells
        self.stack = []
        # The index behind the instruction that is executed, or that waits for another frame.
        self.at = 0
        self.inlined = None
        # For a generator the generator; and what is done with what comes of the frame.
        self.owner = None
        self.manner = ("call",)

    def push(self, entry):
        """Put an entry on the stack."""
        self.stack.append(entry)

    def pick(self, below):
        """Return the entry so many entries below the top, which stays there."""
        if below >= len(self.stack):
            raise MachineFault("an entry that is not there")
        return self.stack[-1 - below]

    def take(self):
        """Take the entry on top, of any kind."""
        self.pick(0)
        return self.stack.pop()

    def take_value(self):
        """Take the value on top."""
        return need_value(self.take())

    def take_values(self, many):
        """Take so many values, and return them with the deepest one first."""
        first = len(self.stack) - many
        if first < 0:
            raise MachineFault("an entry that is not there")
        values = [need_value(entry) for entry in self.stack[first:]]
        del self.stack[first:]
        return values

    def pick_mark(self, word, below):
        """Return the entry of this word so many entries below the top, which stays there."""
        entry = self.pick(below)
        if entry[0] != word:
            raise MachineFault("an entry of another kind")
        return entry

    def take_mark(self, word):
        """Take the entry of this word on top."""
        self.pick_mark(word, 0)
        return self.stack.pop()

    def cut(self, depth):
        """Leave no more than so many entries on the stack, which must be there."""
        if not 0 <= depth <= len(self.stack):
            raise MachineFault("an entry that is not there")
        del self.stack[depth:]

    def cell_at(self, at):
        """Return the cell of this index."""
        if at >= len(self.cells):
            raise MachineFault("a cell that is not there")
        return self.cells[at]

    def handled_here(self):
        """Return the error whose handling began last in this frame and is not over; None if there is none."""
        for entry in self.stack[::-1]:
            if entry[0] == "handled":
                return ("ref", entry[1])
            if entry[0] == "pending" and entry[1] == 4:
                return ("ref", entry[2][1])
        return None

    def told_names(self):
        """Return the bound names with their values, and the names with cells with their cells."""
        unit = self.unit
        found = []
        for name, entry in zip(unit.slots, self.slots):
            if entry != UNSET and name not in unit.cells:
                found.append((name, entry))
        return found + list(zip(unit.cells + unit.free, self.cells))

    def inlined_names(self):
        """Return the bound names of the inlined function with their values."""
        inner = self.inlined
        slots = self.slots[inner.first:]
        return [(name, entry) for name, entry in zip(inner.unit.slots, slots) if entry != UNSET]

    def close_inlined(self):
        """Close the inlined function, if one is open, and unbind its slots."""
        if self.inlined is not None:
            first = self.inlined.first
            for at in range(first, first + len(self.inlined.unit.slots)):
                self.slots[at] = UNSET
            self.inlined = None

    def held_entries(self):
        """Return the entries of all that the frame holds."""
        found = self.slots + self.cells + [told_entry(entry) for entry in self.stack]
        if self.owner is not None:
            found.append(self.owner)
        return found + list(self.manner[1:])

    def hold_again(self, entries):
        """Hold other entries in the places of those that held_entries returns."""
        many = len(self.slots)
        behind = many + len(self.cells)
        last = behind + len(self.stack)
        self.slots = entries[:many]
        self.cells = entries[many:behind]
        self.stack = [marked(entry, kind_letter(old)) for entry, old in zip(entries[behind:last], self.stack)]
        if self.owner is not None:
            self.owner = entries[last]
        self.manner = self.manner[:1] + tuple(entries[len(entries) - len(self.manner) + 1:])

    def kept_entries(self):
        """Return the entries that a generator keeps: those of its names, then what else it holds."""
        table = dict(zip(self.unit.slots, self.slots))
        own = [table[name] for name in own_places(self.unit)]
        table.update(dict(zip(self.unit.cells + self.unit.free, self.cells)))
        found = [table[name] for name in self.unit.slots + self.unit.free]
        return found + own + [told_entry(entry) for entry in self.stack]

    def kept_state(self):
        """Return what a generator keeps in its tag: the unit's number, the index, and the kinds on the stack."""
        return (self.number, self.at, "".join([kind_letter(entry) for entry in self.stack]))


def own_places(unit):
    """Return the names with cells in the order of their slots, which are places of their own."""
    return [name for name in unit.slots if name in unit.cells]


def waking_frame(units, tag, entries):
    """Return the frame of a generator that is new or waiting, for its tag and its slots."""
    number, at, kinds = tag[4]
    unit = units[number]
    names = unit.slots + unit.free
    table = dict(zip(names, entries))
    behind = len(names) + len(unit.cells)
    own = dict(zip(own_places(unit), entries[len(names):behind]))
    slots = [own.get(name, table[name]) for name in unit.slots] + [UNSET] * unit.extra
    frame = Activation(number, unit, slots, [table[name] for name in unit.cells + unit.free])
    frame.stack = [marked(entry, letter) for entry, letter in zip(entries[behind:], kinds)]
    frame.at = at
    frame.line = tag[2]
    return frame


def need_value(entry):
    """Return an entry, which must be a value."""
    if entry[0] in MARKS:
        raise MachineFault("an entry of another kind")
    return entry


def kind_letter(entry):
    """Return the letter of an entry's kind."""
    return MARKS.get(entry[0], "v")


def told_entry(entry):
    """Return an entry of a stack as one that a memory knows."""
    if entry[0] in ("iterator", "cell"):
        return ("ref", entry[1])
    return entry


def marked(entry, letter):
    """Return an entry of a memory as one of a stack whose kind has this letter."""
    if letter in WORDS:
        return (WORDS[letter], entry[1])
    return entry
