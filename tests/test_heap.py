"""Points 27 to 29: the memory whose collector moves the objects."""

import random
import unittest

from likerun.heap import Heap
from likerun.memory import Store

ONE = ("number", 1)
NONE = ("none",)


def ref(address):
    return ("ref", address)


def chain(heap, many, end=ONE):
    """Make lists within each other, and return the outermost."""
    top = heap.make("list", None, [end])
    for _ in range(many - 1):
        top = heap.make("list", None, [top])
    return top


class TestHeap(unittest.TestCase):

    def same(self, found, wanted):
        self.assertEqual(found, wanted)
        self.assertEqual(repr(found), repr(wanted))

    def aged(self, *rows):
        """Return a heap with old lists that have these slots."""
        heap = Heap()
        values = [heap.make("list", None, row) for row in rows]
        heap.collect(values, full=True)
        return heap

    def counts(self, heap):
        return heap.young, heap.old, len(heap), heap.remembered

    def test_example_of_the_interface(self):
        heap = Heap()
        a = heap.make("list", None, [ONE])
        b = heap.make("list", None, [a])
        self.same(heap.collect([b]), [ref(1)])
        self.same(heap.slots_of(ref(1)), [ref(3)])
        self.same(heap.slots_of(ref(3)), [ONE])

    def test_new_objects(self):
        heap = Heap()
        self.assertIsInstance(heap, Store)
        self.same(self.counts(heap), (0, 0, 0, []))
        self.same([heap.make("list", None, []) for _ in range(4)], [ref(1), ref(3), ref(5), ref(7)])
        self.same(self.counts(heap), (4, 0, 4, []))
        self.same(Heap().make("cell", None, [("unset",)]), ref(1))

    def test_old_objects(self):
        heap = self.aged([ONE], [NONE], [])
        self.same(self.counts(heap), (0, 3, 3, []))
        self.same([heap.slots_of(ref(at)) for at in (0, 2, 4)], [[ONE], [NONE], []])
        self.same(heap.make("list", None, []), ref(1))
        self.same(self.counts(heap), (1, 3, 4, []))

    def test_remembered(self):
        entries = ((ref(1), True), (("handled", 1), True), (("pending", 1, ref(1)), True),
                   (("pending", 4, ("handled", 1)), True), (ref(0), False), (("handled", 2), False), (ONE, False),
                   (("pending", 4, ("handled", 0)), False), (("pending", 1, NONE), False), (("number", 3), False),
                   (("unset",), False), (ref(99), True), (("handled", 77), True), (("pending", 5, ref(55)), True))
        for entry, wanted in entries:
            for how in range(3):
                heap = self.aged([ONE, ONE], [ONE])
                heap.make("list", None, [])
                if how == 0:
                    heap.set_slot(ref(0), 1, entry)
                elif how == 1:
                    heap.change(ref(0), None, [entry])
                else:
                    heap.change(ref(0), None, [ONE, NONE, entry])
                self.same(heap.remembered, [0] if wanted else [])

    def test_young_objects_are_not_remembered(self):
        heap = Heap()
        a = heap.make("list", None, [ONE])
        heap.set_slot(a, 0, a)
        heap.change(a, None, [a, a])
        self.same(heap.remembered, [])

    def test_remembered_is_ascending_and_stays(self):
        heap = self.aged([ONE], [ONE], [ONE], [ONE], [ONE], [ONE])
        young = heap.make("list", None, [])
        for address in (10, 2, 8, 2, 10):
            heap.set_slot(ref(address), 0, young)
        self.same(heap.remembered, [2, 8, 10])
        # What is put in its place changes nothing: no collection has come between.
        heap.set_slot(ref(8), 0, ONE)
        heap.change(ref(2), None, [])
        self.same(heap.remembered, [2, 8, 10])
        found = heap.remembered
        found.append(4)
        self.same(heap.remembered, [2, 8, 10])
        heap.collect([])
        # 10 refers to the young object still, which is kept for it.
        self.same(self.counts(heap), (1, 6, 7, [10]))

    def test_kind_and_tag_stay(self):
        heap = Heap()
        heap.make("list", None, [])
        value = heap.make("class", ("A", ("a",)), [NONE, ONE])
        for full in (False, False, True, False):
            (value,) = heap.collect([value], full)
            self.same((heap.kind_of(value), heap.tag_of(value), heap.slots_of(value)),
                      ("class", ("A", ("a",)), [NONE, ONE]))

    def test_ages(self):
        heap = Heap()
        value = heap.make("list", None, [ONE])
        self.same(heap.collect([value]), [ref(1)])
        self.same(self.counts(heap), (1, 0, 1, []))
        other = heap.make("list", None, [NONE])
        self.same(heap.collect([other, ref(1)]), [ref(1), ref(0)])
        self.same(self.counts(heap), (1, 1, 2, []))
        self.same(heap.collect([ref(0), ref(1)]), [ref(0), ref(2)])
        self.same(self.counts(heap), (0, 2, 2, []))
        self.same(heap.collect([]), [])
        # Old objects stay in a young collection, whether or not they can be reached.
        self.same(self.counts(heap), (0, 2, 2, []))
        self.same(heap.collect([], full=True), [])
        self.same(self.counts(heap), (0, 0, 0, []))
        # All addresses begin again.
        self.same(heap.make("list", None, []), ref(1))
        self.same(heap.collect([ref(1)], full=True), [ref(0)])

    def test_order_of_a_young_collection(self):
        heap = self.aged([ONE, ONE], [ONE], [ONE])
        values = [heap.make("list", None, [("text", name)]) for name in "abcdefghij"]
        a, b, c, d, e, f, g, h, i, j = values
        heap.change(c, None, [("text", "c"), h])
        heap.change(b, None, [("text", "b"), g, a])
        heap.change(f, None, [("text", "f"), i, c])
        heap.set_slot(ref(4), 0, f)
        heap.set_slot(ref(0), 1, e)
        heap.set_slot(ref(0), 0, b)
        # First c and d for the entries, then b and e (of 0) and f (of 4), then h (of c), g and a (of b), i (of f).
        entries = [ref(2), c, ONE, ("handled", d[1]), c]
        before = list(entries)
        self.same(heap.collect(entries), [ref(2), ref(1), ONE, ("handled", 3), ref(1)])
        self.same(entries, before)
        names = [heap.slots_of(ref(2 * at + 1))[0][1] for at in range(heap.young)]
        self.same("".join(names), "cdbefhgai")
        self.same(heap.slots_of(ref(0)), [ref(5), ref(7)])
        self.same(heap.slots_of(ref(4)), [ref(9)])
        self.same(heap.slots_of(ref(5)), [("text", "b"), ref(13), ref(15)])
        self.same(self.counts(heap), (9, 3, 12, [0, 4]))
        # All are copied a second time now, in the same order; nothing young is left.
        self.same(heap.collect([ref(1), ref(3)]), [ref(6), ref(8)])
        self.same("".join(heap.slots_of(ref(6 + 2 * at))[0][1] for at in range(9)), "cdbefhgai")
        self.same(self.counts(heap), (0, 12, 12, []))
        self.same(heap.faults([]), [])

    def test_two_ages_at_once(self):
        heap = Heap()
        a = heap.make("list", None, [ONE])
        (a,) = heap.collect([a])
        b = heap.make("list", None, [a])
        c = heap.make("list", None, [NONE])
        heap.set_slot(a, 0, c)
        # a (age 1) becomes old and refers to c, which stays young: a is remembered.
        self.same(heap.collect([b]), [ref(1)])
        self.same(self.counts(heap), (2, 1, 3, [0]))
        self.same((heap.slots_of(ref(1)), heap.slots_of(ref(0)), heap.slots_of(ref(3))), ([ref(0)], [ref(3)], [NONE]))
        # c becomes old as well: a is remembered no more.
        self.same(heap.collect([]), [])
        self.same(self.counts(heap), (0, 2, 2, []))
        self.same(heap.slots_of(ref(0)), [ref(2)])

    def test_slots_of_other_old_objects_are_not_searched(self):
        heap = self.aged([ref(3)], [ONE])
        self.same(heap.slots_of(ref(0)), [ref(2)])
        young = heap.make("list", None, [])
        heap.set_slot(ref(2), 0, young)
        heap.set_slot(ref(2), 0, ONE)
        lost = heap.make("list", None, [ref(0)])
        self.same(heap.remembered, [2])
        self.same(heap.collect([ref(0)]), [ref(0)])
        self.same(self.counts(heap), (0, 2, 2, []))
        del lost

    def test_what_an_unreachable_old_object_remembers_is_kept(self):
        heap = self.aged([ONE])
        value = chain(heap, 3)
        heap.set_slot(ref(0), 0, value)
        self.same(heap.collect([]), [])
        self.same(self.counts(heap), (3, 1, 4, [0]))
        self.same(heap.slots_of(ref(0)), [ref(1)])
        self.same(heap.collect([], full=True), [])
        self.same(self.counts(heap), (0, 0, 0, []))

    def test_dropped_objects(self):
        heap = Heap()
        a = heap.make("list", None, [])
        heap.make("list", None, [a])
        b = heap.make("list", None, [])
        self.same(heap.collect([b]), [ref(1)])
        self.same(self.counts(heap), (1, 0, 1, []))
        c = heap.make("list", None, [ref(1)])
        self.same(c, ref(3))
        self.same(heap.collect([c]), [ref(1)])
        self.same(self.counts(heap), (1, 1, 2, []))
        self.same(heap.slots_of(ref(1)), [ref(0)])
        self.same(heap.collect([]), [])
        self.same(self.counts(heap), (0, 1, 1, []))

    def test_full_collection(self):
        heap = self.aged([ONE], [ONE], [ONE])
        a = heap.make("list", None, [ref(4)])
        b = heap.make("tuple", None, [a, ONE])
        heap.make("list", None, [b])
        heap.set_slot(ref(4), 0, b)
        entries = [("pending", 2, ("handled", a[1])), ref(0), ("unset",), ("pending", 1, b), ("pending", 0, NONE)]
        before = list(entries)
        self.same(heap.reach(entries), [1, 0, 3, 4])
        self.same(heap.collect(entries, full=True),
                  [("pending", 2, ("handled", 0)), ref(2), ("unset",), ("pending", 1, ref(4)), ("pending", 0, NONE)])
        self.same(entries, before)
        self.same(self.counts(heap), (0, 4, 4, []))
        self.same([heap.slots_of(ref(at)) for at in (0, 2, 4, 6)], [[ref(6)], [ONE], [ref(0), ONE], [ref(4)]])

    def test_cycles_over_both_spaces(self):
        heap = self.aged([ONE])
        a = heap.make("list", None, [ref(0)])
        heap.set_slot(ref(0), 0, a)
        b = heap.make("list", None, [ref(0)])
        heap.set_slot(b, 0, b)
        self.same(heap.collect([b]), [ref(1)])
        self.same((heap.slots_of(ref(0)), heap.slots_of(ref(1)), heap.slots_of(ref(3))), ([ref(3)], [ref(1)], [ref(0)]))
        self.same(heap.collect([ref(1), ref(0)], full=True), [ref(0), ref(2)])
        self.same([heap.slots_of(ref(at)) for at in (0, 2, 4)], [[ref(0)], [ref(4)], [ref(2)]])

    def test_entries_of_each_sort(self):
        for full, wanted in ((False, 1), (True, 0)):
            heap = Heap()
            heap.make("list", None, [])
            value = heap.make("list", None, [])
            at = value[1]
            entries = [ONE, ("unset",), ("handled", at), ("pending", 4, ("handled", at)), ("pending", 1, value), value,
                       value, ("pending", 3, NONE), ("builtin", "len")]
            self.same(heap.collect(entries, full),
                      [ONE, ("unset",), ("handled", wanted), ("pending", 4, ("handled", wanted)),
                       ("pending", 1, ref(wanted)), ref(wanted), ref(wanted), ("pending", 3, NONE), ("builtin", "len")])
            self.same(len(heap), 1)

    def test_marks_in_slots(self):
        heap = Heap()
        a = heap.make("instance", ((), ()), [NONE])
        heap.make("list", None, [])
        b = heap.make("generator", None, [("handled", a[1]), ("pending", 1, a), ("pending", 4, ("handled", a[1])), ONE])
        for full, address, other in ((False, 1, 3), (False, 0, 2), (True, 0, 2)):
            (b,) = heap.collect([b], full=full)
            self.same(b, ref(address))
            self.same(heap.slots_of(b), [("handled", other), ("pending", 1, ref(other)),
                                         ("pending", 4, ("handled", other)), ONE])

    def test_long_chains(self):
        heap = Heap()
        top = chain(heap, 20000)
        for full in (False, False, True):
            (top,) = heap.collect([top], full)
            self.assertEqual(len(heap), 20000)
        self.same(self.counts(heap), (0, 20000, 20000, []))
        self.same(heap.slots_of(ref(0)), [ref(2)])
        self.same(heap.slots_of(ref(39998)), [ONE])
        self.same(heap.faults([top]), [])

    def test_dangling(self):
        heap = self.aged([ONE, ONE], [ONE])
        heap.make("list", None, [("handled", 12), ref(5), ref(3)])
        heap.make("list", None, [ref(0), ("pending", 2, ref(40)), ("pending", 4, ("handled", 7)), ("number", 99)])
        self.same(heap.faults([]), [("dangling", at) for at in (5, 7, 12, 40)])
        self.same(heap.faults([ref(6), ("handled", 5), ("pending", 1, ref(11)), ("pending", 4, ("handled", 2)), ref(6)]),
                  [("dangling", at) for at in (5, 6, 7, 11, 12, 40)])
        heap.set_slot(ref(0), 0, ref(9))
        self.same(heap.remembered, [0])
        self.same(heap.faults([ONE, ("unset",)]), [("dangling", at) for at in (5, 7, 9, 12, 40)])
        self.same(Heap().faults([ref(8)]), [("dangling", 8)])
        entries = [ref(8), ref(0)]
        self.same(heap.faults(entries), [("dangling", at) for at in (5, 7, 8, 9, 12, 40)])
        self.same(entries, [ref(8), ref(0)])

    def test_void_addresses(self):
        heap = Heap()
        value = chain(heap, 3)
        heap.collect([value], full=True)
        self.same(heap.faults([value]), [("dangling", 5)])

    def test_forgotten(self):
        # A memory that has lost what it remembers: no method loses it, so the test takes it away by hand.
        heap = self.aged([ONE], [ONE], [ONE])
        young = heap.make("list", None, [])
        for address, entry in ((4, young), (0, ("handled", 1)), (2, ("pending", 1, young))):
            heap.set_slot(ref(address), 0, entry)
        self.same(heap.faults([]), [])
        heap.marked = {2: True}
        self.same(heap.faults([ref(3)]), [("dangling", 3), ("forgotten", 0), ("forgotten", 4)])

    def test_random_histories(self):
        for seed in range(150):
            History(random.Random(seed), self).run(60)


class Plain:
    """A second collector: rows of [kind, tag, slots, age, remembered], where slots hold rows and words."""

    def __init__(self):
        self.young = []
        self.old = []

    def make(self, kind, tag, slots):
        self.young.append([kind, tag, list(slots), 0, False])
        return self.young[-1]

    def put(self, row, slots):
        """Replace the slots of a row, all or one of which are new."""
        new = [slot for at, slot in enumerate(slots) if at >= len(row[2]) or row[2][at] is not slot]
        row[2] = list(slots)
        if self.has(self.old, row) and any(self.has(self.young, part) for part in new):
            row[4] = True

    def has(self, rows, part):
        return any(row is part for row in rows)

    def address(self, part):
        for rows, first in ((self.young, 1), (self.old, 0)):
            for at, row in enumerate(rows):
                if row is part:
                    return 2 * at + first
        raise AssertionError("a row that is gone")

    def collect(self, entries, full):
        if full:
            self.old = self.search(list(entries), lambda row: True)
            self.young = []
            for row in self.old:
                row[4] = False
            return
        starts = list(entries)
        for row in self.old:
            if row[4]:
                starts += row[2]
        met = self.search(starts, lambda row: self.has(self.young, row))
        self.young = []
        for row in met:
            (self.young if row[3] == 0 else self.old).append(row)
            row[4] = row[3] == 1
            row[3] = 1
        for row in self.old:
            row[4] = row[4] and any(self.has(self.young, part) for part in row[2])

    def search(self, starts, wanted):
        found = []
        queue = list(starts)
        while queue:
            part = queue.pop(0)
            if isinstance(part, list) and wanted(part) and not self.has(found, part):
                found.append(part)
                queue += part[2]
        return found


class History:
    """The same things done with a heap and with the second collector."""

    def __init__(self, rng, case):
        self.rng = rng
        self.case = case
        self.heap = Heap()
        self.plain = Plain()
        # What the caller holds: the entries in the one and in the other.
        self.held = []

    def run(self, many):
        for _ in range(many):
            self.rng.choice([self.make, self.make, self.change, self.set_slot, self.drop, self.collect])()
            self.check()

    def values(self):
        """Return what can be reached: entries of the heap and the rows of the other collector."""
        return [(ref(self.plain.address(row)), row) for row in self.plain.search([row for _, row in self.held],
                                                                                lambda row: True)]

    def part(self):
        """Choose an entry and its likeness."""
        values = self.values()
        if values and self.rng.random() < 0.7:
            entry, row = self.rng.choice(values)
            word = self.rng.choice(["ref", "ref", "handled", "pending", "deep"])
            if word == "pending":
                return ("pending", 1, entry), row
            if word == "deep":
                return ("pending", 4, ("handled", entry[1])), row
            return (word, entry[1]), row
        return ONE, ONE

    def make(self):
        parts = [self.part() for _ in range(self.rng.randrange(4))]
        tag = self.rng.randrange(100)
        value = self.heap.make("list", tag, [entry for entry, _ in parts])
        row = self.plain.make("list", tag, [likeness for _, likeness in parts])
        self.case.same(value, ref(self.plain.address(row)))
        self.held.append((value, row))

    def change(self):
        values = self.values()
        if values:
            value, row = self.rng.choice(values)
            parts = [self.part() for _ in range(self.rng.randrange(4))]
            self.heap.change(value, "changed", [entry for entry, _ in parts])
            row[1] = "changed"
            row[2] = []
            self.plain.put(row, [likeness for _, likeness in parts])

    def set_slot(self):
        values = [(value, row) for value, row in self.values() if row[2]]
        if values:
            value, row = self.rng.choice(values)
            at = self.rng.randrange(len(row[2]))
            entry, likeness = self.part()
            self.heap.set_slot(value, at, entry)
            row[2][at] = None
            self.plain.put(row, row[2][:at] + [likeness] + row[2][at + 1:])

    def drop(self):
        if self.held:
            self.held.pop(self.rng.randrange(len(self.held)))

    def collect(self):
        full = self.rng.random() < 0.2
        entries = [entry for entry, _ in self.held]
        before = self.heap.graph(entries)
        rows = [row for _, row in self.held]
        self.plain.collect(rows, full)
        found = self.heap.collect(entries, full) if self.rng.random() < 0.5 else self.heap.collect(entries, full=full)
        self.case.same(found, [place(entry, row, self.plain) for entry, row in self.held])
        self.held = list(zip(found, rows))
        self.case.same(self.heap.graph(found), before)

    def check(self):
        heap = self.heap
        case = self.case
        plain = self.plain
        case.same(heap.faults([entry for entry, _ in self.held]), [])
        case.same((heap.young, heap.old, len(heap)), (len(plain.young), len(plain.old), len(plain.young + plain.old)))
        case.same(heap.remembered, [2 * at for at, row in enumerate(plain.old) if row[4]])
        for rows, first in ((plain.young, 1), (plain.old, 0)):
            for at, row in enumerate(rows):
                # What cannot be reached any more may refer to what is gone, if it is young.
                value = ref(2 * at + first)
                case.same((heap.kind_of(value), heap.tag_of(value)), (row[0], row[1]))
                slots = heap.slots_of(value)
                case.same(slots, [place(entry, part, plain) for entry, part in zip(slots, row[2])])
                case.assertEqual(len(slots), len(row[2]))


def place(entry, row, plain):
    """Return an entry of this sort with the address of a row."""
    if not isinstance(row, list):
        return row
    if entry[0] == "pending":
        return entry[:2] + (place(entry[2], row, plain),)
    return (entry[0], plain.address(row))


if __name__ == "__main__":
    unittest.main()
