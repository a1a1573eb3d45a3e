"""A memory with a collector that moves the objects which can still be reached."""

from likerun.memory import Store, Thing, address_of, moved


class Heap(Store):
    """Keeps young objects at odd addresses and old ones at even addresses."""

    def __init__(self):
        Store.__init__(self)
        self.young_many = 0
        self.old_many = 0
        self.marked = {}

    def __len__(self):
        """Return the number of objects that are kept."""
        return len(self.things)

    @property
    def young(self):
        """The number of young objects."""
        return self.young_many

    @property
    def old(self):
        """The number of old objects."""
        return self.old_many

    @property
    def remembered(self):
        """The addresses of the old objects that may refer to young ones, in ascending order."""
        return sorted(list(self.marked))

    def make(self, kind, tag, slots):
        """Keep a new young object and return its reference."""
        address = 2 * self.young_many + 1
        self.young_many += 1
        self.things[address] = Thing(kind, tag, list(slots))
        return ("ref", address)

    def set_slot(self, value, index, entry):
        """Replace one slot of an object."""
        self.things[value[1]].slots[index] = entry
        self.remember(value[1], [entry])

    def change(self, value, tag, slots):
        """Replace the tag and the slots of an object."""
        thing = self.things[value[1]]
        thing.tag = tag
        thing.slots = list(slots)
        self.remember(value[1], thing.slots)

    def remember(self, address, entries):
        """Remember an old object if one of its entries refers to a young one."""
        if not is_young(address) and refers_to_young(entries):
            self.marked[address] = True

    def collect(self, entries, full=False):
        """Move the objects that can be reached, forget the others, and return the entries with new addresses."""
        if full:
            table = self.move_all(entries)
        else:
            table = self.move_young(entries)
        return [moved(entry, table) for entry in entries]

    def move_all(self, entries):
        """Move all objects that can be reached into the old space, and return the table of addresses."""
        order = self.reach(entries)
        table = {address: 2 * number for number, address in enumerate(order)}
        kept = {}
        for address in order:
            thing = self.things[address]
            thing.slots = [moved(entry, table) for entry in thing.slots]
            kept[table[address]] = thing
        self.things = kept
        self.young_many = 0
        self.old_many = len(order)
        self.marked = {}
        return table

    def move_young(self, entries):
        """Move the young objects that can be reached, and return the table of addresses."""
        order = self.reached_young(entries)
        copied = [self.things[address] for address in order]
        changed = self.remembered
        for number in range(self.young_many):
            del self.things[2 * number + 1]
        self.young_many = 0
        table = {}
        for address, thing in zip(order, copied):
            table[address] = self.place(thing)
            changed.append(table[address])
        self.marked = {}
        for address in changed:
            self.readdress(address, table)
        return table

    def place(self, thing):
        """Put a copied object into the young space, or into the old one if it was copied before."""
        if thing.age == 0:
            address = 2 * self.young_many + 1
            self.young_many += 1
        else:
            address = 2 * self.old_many
            self.old_many += 1
        thing.age = 1
        self.things[address] = thing
        return address

    def readdress(self, address, table):
        """Give the slots of an object the new addresses, and remember it if it has to be."""
        thing = self.things[address]
        thing.slots = [moved(entry, table) for entry in thing.slots]
        self.remember(address, thing.slots)

    def reached_young(self, entries):
        """Return the addresses of the young objects that can be reached without the slots of other old objects."""
        met = {}
        order = []
        meet_young(entries, met, order)
        for address in self.remembered:
            meet_young(self.things[address].slots, met, order)
        at = 0
        while at < len(order):
            meet_young(self.things[order[at]].slots, met, order)
            at += 1
        return order

    def faults(self, entries):
        """Return the addresses without an object, and those of old objects that ought to be remembered."""
        asked = list(entries)
        forgotten = []
        for address in sorted(list(self.things)):
            slots = self.things[address].slots
            asked.extend(slots)
            if not is_young(address) and address not in self.marked and refers_to_young(slots):
                forgotten.append(address)
        addresses = {address_of(entry): True for entry in asked}
        dangling = [address for address in addresses if address is not None and address not in self.things]
        found = [("dangling", address) for address in sorted(dangling)]
        return found + [("forgotten", address) for address in forgotten]


def is_young(address):
    """Tell whether an address is one of the young space."""
    return address % 2 == 1


def refers_to_young(entries):
    """Tell whether one of the entries refers to a young object."""
    for entry in entries:
        address = address_of(entry)
        if address is not None and is_young(address):
            return True
    return False


def meet_young(entries, met, order):
    """Put the young addresses of entries that are not yet met behind the others."""
    for entry in entries:
        address = address_of(entry)
        if address is not None and is_young(address) and address not in met:
            met[address] = True
            order.append(address)
