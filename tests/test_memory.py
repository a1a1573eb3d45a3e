"""Points 24 to 26, and the table of point 30: memories that keep every object."""

import random
import unittest

from likerun.heap import Heap
from likerun.memory import Store

ONE = ("number", 1)
NONE = ("none",)
PLAIN = (NONE, ("truth", True), ("number", -7), ("text", "a"), ("builtin", "len"), ("errorclass", "Error"), ("unset",))
# An object of each kind with the tag and the slots of point 30; the references are to the first object.
ROWS = (
    ("list", None, [ONE, NONE]), ("tuple", None, []), ("dict", None, [ONE, NONE, ("text", "a"), ("ref", 0)]),
    ("cell", None, [("unset",)]), ("function", (3, "f"), [ONE, ("ref", 0)]), ("method", "f", [("ref", 0)]),
    ("class", ("A", ("a", "b")), [NONE, ONE, ONE]), ("instance", (("a",), (("main", 1),)), [("ref", 0), ONE]),
    ("iterator", (-1, 3), [("ref", 0)]), ("generator", ("new", "g", 2, ("a",), ()), [("unset",), ("handled", 0)]),
)
KINDS = ("list", "tuple", "dict", "cell", "function", "method", "class", "instance", "iterator", "generator")


class TestStore(unittest.TestCase):

    def same(self, found, wanted):
        self.assertEqual(found, wanted)
        self.assertEqual(repr(found), repr(wanted))

    def test_kinds(self):
        self.same(Store.KINDS, KINDS)
        self.same(Heap.KINDS, KINDS)
        self.same(tuple(row[0] for row in ROWS), KINDS)

    def test_addresses(self):
        store = Store()
        for number, row in enumerate(ROWS):
            self.same(len(store), number)
            self.same(store.make(*row), ("ref", number))
        self.same(len(store), len(ROWS))
        self.same(Store().make(*ROWS[0]), ("ref", 0))
        self.same(len(Store()), 0)

    def test_each_kind(self):
        for make in (Store, Heap):
            store = make()
            values = [store.make(*row) for row in ROWS]
            for value, (kind, tag, slots) in zip(values, ROWS):
                self.same(store.kind_of(value), kind)
                self.same(store.tag_of(value), tag)
                self.same(store.slots_of(value), slots)
                for index, entry in enumerate(slots):
                    self.same(store.slot(value, index), entry)
            for value, (kind, _, slots) in zip(values, ROWS):
                for index in range(len(slots)):
                    self.same(store.set_slot(value, index, ("text", str(index))), None)
                    self.same(store.slot(value, index), ("text", str(index)))
                self.same(store.slots_of(value), [("text", str(index)) for index in range(len(slots))])
                self.same(store.change(value, ("new", 1), [ONE] * 3), None)
                self.same((store.kind_of(value), store.tag_of(value)), (kind, ("new", 1)))
                self.same(store.slots_of(value), [ONE] * 3)
            self.same(len(store), len(ROWS))

    def test_slots_are_copied(self):
        for make in (Store, Heap):
            store = make()
            mine = [ONE, NONE]
            value = store.make("list", None, mine)
            mine.append(ONE)
            mine[0] = NONE
            self.same(store.slots_of(value), [ONE, NONE])
            found = store.slots_of(value)
            found.append(ONE)
            found[0] = NONE
            self.same(store.slots_of(value), [ONE, NONE])
            other = [NONE]
            store.change(value, None, other)
            other.append(ONE)
            self.same(store.slots_of(value), [NONE])
            store.set_slot(value, 0, ONE)
            self.same((mine, other, found), ([NONE, NONE, ONE], [NONE, ONE], [NONE, NONE, ONE]))

    def test_set_slot_changes_one_slot_of_one_object(self):
        store = Store()
        a = store.make("list", None, [ONE, ONE, ONE])
        b = store.make("list", None, store.slots_of(a))
        store.set_slot(a, 1, NONE)
        self.same((store.slots_of(a), store.slots_of(b)), ([ONE, NONE, ONE], [ONE, ONE, ONE]))

    def test_slots_may_be_handed_in_as_a_tuple(self):
        store = Store()
        value = store.make("tuple", None, (ONE,))
        self.same(store.slots_of(value), [ONE])
        store.change(value, None, (NONE, ONE))
        self.same(store.slots_of(value), [NONE, ONE])

    def build(self, *rows):
        """Keep lists with references of these numbers."""
        store = Store()
        for _ in rows:
            store.make("list", None, [])
        for number, row in enumerate(rows):
            store.change(("ref", number), None, [("ref", other) for other in row])
        return store

    def test_reach(self):
        store = self.build([3, 1], [4, 0, 4], [2], [5], [], [1])
        for entries, wanted in (
                ([("ref", 0)], [0, 3, 1, 5, 4]), ([("ref", 4)], [4]), ([("ref", 2)], [2]), ([], []),
                ([("ref", 5), ("ref", 3)], [5, 3, 1, 4, 0]), ([("ref", 2), ONE, ("ref", 2), ("ref", 4)], [2, 4]),
                ([("handled", 3)], [3, 5, 1, 4, 0]), ([("pending", 4, ("handled", 2)), ("pending", 1, ("ref", 4))], [2, 4]),
                ([("pending", 0, NONE), ("unset",), ("number", 1), ("builtin", "len")], []),
                ([ONE, ("ref", 1)], [1, 4, 0, 3, 5])):
            before = list(entries)
            self.same(store.reach(entries), wanted)
            self.same(entries, before)
        found = store.reach([("ref", 2)])
        found.append(7)
        self.same(store.reach([("ref", 2)]), [2])

    def test_reach_through_slots_of_each_sort(self):
        store = Store()
        values = [store.make("list", None, []) for _ in range(4)]
        top = store.make("generator", None, [("handled", 2), ONE, ("pending", 1, ("ref", 0)), ("pending", 4, ("handled", 3)),
                                             values[1], ("pending", 0, NONE)])
        self.same(store.reach([top]), [4, 2, 0, 3, 1])

    def test_graph(self):
        store = Store()
        for row in ROWS:
            store.make(*row)
        entries = [("ref", 3), ONE, ("handled", 8), ("ref", 3), ("pending", 2, ("handled", 4)), ("pending", 3, NONE)]
        self.same(store.graph(entries), (
            (("ref", 0), ONE, ("handled", 1), ("ref", 0), ("pending", 2, ("handled", 2)), ("pending", 3, NONE)),
            (("cell", None, (("unset",),)), ("iterator", (-1, 3), (("ref", 3),)), ("function", (3, "f"), (ONE, ("ref", 3))),
             ("list", None, (ONE, NONE)))))
        self.same(entries[0], ("ref", 3))
        self.same(store.graph([]), ((), ()))
        self.same(store.graph([ONE, ("unset",)]), ((ONE, ("unset",)), ()))
        self.same(store.graph([("pending", 1, ("ref", 1))]), ((("pending", 1, ("ref", 0)),), (("tuple", None, ()),)))

    def test_graph_does_not_ask_where_objects_lie(self):
        rng = random.Random(25)
        for _ in range(200):
            rows = [(rng.choice(KINDS), rng.choice([None, "a", (1, "b")]),
                     [rng.choice([ONE, NONE, ("ref", None), ("handled", None), ("pending", 1, ("ref", None))])
                      for _ in range(rng.randrange(4))]) for _ in range(8)]
            links = [[rng.randrange(8) for _ in row[2]] for row in rows]
            graphs = []
            for turn in range(3):
                order = list(range(8))
                rng.shuffle(order)
                store = (Store, Heap, Store)[turn]()
                values = {number: store.make(rows[number][0], rows[number][1], []) for number in order}
                for number in order:
                    slots = [place(entry, values[link][1]) for entry, link in zip(rows[number][2], links[number])]
                    store.change(values[number], rows[number][1], slots)
                graphs.append(store.graph([values[0], ONE, ("handled", values[1][1])]))
            self.same(graphs[0], graphs[1])
            self.same(graphs[0], graphs[2])

    def test_many_objects_within_each_other(self):
        for make in (Store, Heap):
            store = make()
            top = store.make("list", None, [])
            for _ in range(20000):
                top = store.make("list", None, [top])
            self.assertEqual(len(store.reach([top])), 20001)
            tops, objects = store.graph([top])
            self.same(tops, (("ref", 0),))
            self.assertEqual(len(objects), 20001)
            self.same(objects[19999:], (("list", None, (("ref", 20000),)), ("list", None, ())))


def place(entry, address):
    """Put an address into an entry that wants one."""
    if entry[0] == "pending":
        return entry[:2] + (place(entry[2], address),)
    return (entry[0], address) if len(entry) > 1 and entry[1] is None else entry


if __name__ == "__main__":
    unittest.main()
