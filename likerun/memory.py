"""A memory that keeps every object for ever, and what all memories have."""


class Thing:
    """An object in a memory; its age counts the young collections that have copied it."""

    def __init__(self, kind, tag, slots):
        self.kind = kind
        self.tag = tag
        self.slots = slots
        self.age = 0


class Store:
    """Keeps objects at the addresses 0, 1, 2, and so on."""

    KINDS = ("list", "tuple", "dict", "cell", "function", "method", "class", "instance", "iterator", "generator")

    def __init__(self):
        self.things = {}

    def __len__(self):
        """Return the number of objects that are kept."""
        return len(self.things)

    def make(self, kind, tag, slots):
        """Keep a new object and return its reference."""
        address = len(self.things)
        self.things[address] = Thing(kind, tag, list(slots))
        return ("ref", address)

    def kind_of(self, value):
        """Return the kind of an object."""
        return self.things[value[1]].kind

    def tag_of(self, value):
        """Return the tag of an object."""
        return self.things[value[1]].tag

    def slots_of(self, value):
        """Return the slots of an object in a new list."""
        return list(self.things[value[1]].slots)

    def slot(self, value, index):
        """Return one slot of an object."""
        return self.things[value[1]].slots[index]

    def set_slot(self, value, index, entry):
        """Replace one slot of an object."""
        self.things[value[1]].slots[index] = entry

    def change(self, value, tag, slots):
        """Replace the tag and the slots of an object."""
        thing = self.things[value[1]]
        thing.tag = tag
        thing.slots = list(slots)

    def reach(self, entries):
        """Return the addresses of the objects that can be reached from the entries, breadth first."""
        met = {}
        order = []
        self.meet_all(entries, met, order)
        at = 0
        while at < len(order):
            self.meet_all(self.things[order[at]].slots, met, order)
            at += 1
        return order

    def meet_all(self, entries, met, order):
        """Put the addresses of entries that are not yet met behind the others."""
        for entry in entries:
            address = address_of(entry)
            if address is not None and address not in met:
                met[address] = True
                order.append(address)

    def graph(self, entries):
        """Return the entries and the objects that can be reached from them, with numbers for addresses."""
        order = self.reach(entries)
        numbers = {address: number for number, address in enumerate(order)}
        tops = tuple([moved(entry, numbers) for entry in entries])
        objects = []
        for address in order:
            thing = self.things[address]
            slots = tuple([moved(entry, numbers) for entry in thing.slots])
            objects.append((thing.kind, thing.tag, slots))
        return tops, tuple(objects)


def address_of(entry):
    """Return the address of the object to which an entry refers; None if it refers to none."""
    word = entry[0]
    if word == "ref" or word == "handled":
        return entry[1]
    if word == "pending":
        return address_of(entry[2])
    return None


def moved(entry, table):
    """Return an entry with the address that a table gives for its own, if it has one there."""
    word = entry[0]
    if word == "ref" or word == "handled":
        return (word, table.get(entry[1], entry[1]))
    if word == "pending":
        return (word, entry[1], moved(entry[2], table))
    return entry
