"""Points 41 to 43: iteration, classes and attributes."""

import unittest

from likerun.fields import (
    delete_field, fetch, find_field, get_iterator, is_error, is_error_class, is_within, load_field, store_field)
from likerun.values import ERROR_CLASSES
from tests.memories import NONE, TRUE, MemoryCase, Raw, number, text

NATIVES = {
    "list": "append extend insert pop index reverse", "dict": "get pop keys values items",
    "text": "upper lower split join find", "generator": "send close",
}


def error(name):
    return ("errorclass", name)


class TestIteration(MemoryCase):

    def rest(self, iterator):
        """Fetch all items; then the iterator is used up."""
        found = []
        item = fetch(self.memory, iterator)
        while item is not None:
            found.append(item)
            item = fetch(self.memory, iterator)
        self.same(self.memory.tag_of(iterator)[0], -1)
        self.same(fetch(self.memory, iterator), None)
        return [self.got(item) for item in found]

    def test_iterators(self):
        for thing, wanted in (([1, "a"], [1, "a"]), ((1, 2), [1, 2]), ("abc", ["a", "b", "c"]), ({"a": 1, (1,): 2}, ["a", (1,)]),
                              ([], []), ((), []), ("", []), ({}, [])):
            value = self.put(thing)
            iterator = get_iterator(self.memory, value)
            self.same(self.memory.kind_of(iterator), "iterator")
            self.same(self.memory.tag_of(iterator), (0, len(wanted)))
            self.same(self.memory.slots_of(iterator), [value])
            self.same(self.rest(iterator), wanted)
            # It keeps its container.
            self.same(self.memory.slots_of(iterator), [value])
            self.same(self.memory.tag_of(iterator), (-1, len(wanted)))
            self.assertNotEqual(get_iterator(self.memory, value), iterator)

    def test_positions(self):
        iterator = get_iterator(self.memory, self.put([5, 6]))
        for item, position in ((number(5), 1), (number(6), 2), (None, -1), (None, -1)):
            self.same(fetch(self.memory, iterator), item)
            self.same(self.memory.tag_of(iterator), (position, 2))

    def test_iterators_of_iterators(self):
        iterator = get_iterator(self.memory, self.put([1]))
        self.same(get_iterator(self.memory, iterator), iterator)
        for state in ("new", "waiting", "running", "ended"):
            value = self.generator(state)
            self.same(get_iterator(self.memory, value), value)

    def test_other_values(self):
        for value in self.others("list", "tuple", "text", "dict", "iterator", "generator"):
            self.fails("KindError", get_iterator, value)

    def test_lists_that_change(self):
        value = self.put([1, 2])
        iterator = get_iterator(self.memory, value)
        fetch(self.memory, iterator)
        self.memory.change(value, None, [number(at) for at in range(5)])
        self.same(self.rest(iterator), [1, 2, 3, 4])
        self.memory.change(value, None, [number(at) for at in range(9)])
        self.same(fetch(self.memory, iterator), None)
        iterator = get_iterator(self.memory, value)
        for _ in range(3):
            fetch(self.memory, iterator)
        self.memory.change(value, None, [number(7)] * 3)
        self.same(fetch(self.memory, iterator), None)
        self.same(self.memory.tag_of(iterator), (-1, 9))

    def test_dicts_that_change(self):
        value = self.put({"a": 1, "b": 2})
        iterator = get_iterator(self.memory, value)
        self.same(fetch(self.memory, iterator), text("a"))
        self.memory.change(value, None, [text("a"), NONE])
        self.fails("FlowError", fetch, iterator)
        self.fails("FlowError", fetch, iterator)
        self.memory.change(value, None, [text("x"), NONE, text("y"), NONE])
        self.same(fetch(self.memory, iterator), text("y"))
        self.memory.change(value, None, [text("x"), NONE] * 3)
        self.fails("FlowError", fetch, iterator)
        self.memory.change(value, None, [text("x"), NONE] * 2)
        self.same(fetch(self.memory, iterator), None)
        # Used up: it does not ask any more.
        self.memory.change(value, None, [])
        self.same(fetch(self.memory, iterator), None)

    def test_two_iterators(self):
        value = self.put((1, 2))
        a, b = get_iterator(self.memory, value), get_iterator(self.memory, value)
        self.same([fetch(self.memory, part) for part in (a, a, b, a, b)], [number(1), number(2), number(1), None, number(2)])


class TestClasses(MemoryCase):

    def setUp(self):
        super().setUp()
        self.a = self.cls("A", x=1, y=2)
        self.b = self.cls("B", self.a, y=3, z=4)
        self.e = self.cls("E", error("KeyError"), x=5)
        self.f = self.cls("F", self.e, y=6)

    def test_find_field(self):
        for cls, name, wanted in (
                (self.a, "x", 1), (self.a, "y", 2), (self.a, "z", None), (self.b, "x", 1), (self.b, "y", 3), (self.b, "z", 4),
                (self.f, "x", 5), (self.f, "y", 6), (self.f, "message", None)):
            self.same(find_field(self.memory, cls, name), wanted and number(wanted))
        for name, _ in ERROR_CLASSES:
            self.same(find_field(self.memory, error(name), "message"), None)
        self.same(find_field(self.memory, self.cls("C", x=None), "x"), NONE)

    def test_is_within(self):
        chains = {self.a: [self.a], self.b: [self.b, self.a], self.e: [self.e, error("KeyError"), error("FindError"), error("Error")],
                  self.f: [self.f, self.e, error("KeyError"), error("FindError"), error("Error")]}
        others = [self.a, self.b, self.e, self.f] + [error(name) for name, _ in ERROR_CLASSES]
        for cls, chain in chains.items():
            for other in others:
                self.same(is_within(self.memory, cls, other), other in chain)
        for name, above in ERROR_CLASSES:
            for other, _ in ERROR_CLASSES:
                wanted = other in (name, above, "Error")
                self.same(is_within(self.memory, error(name), error(other)), wanted)
            self.same(is_within(self.memory, error(name), self.e), False)

    def test_error_classes(self):
        for cls, wanted in ((self.a, False), (self.b, False), (self.e, True), (self.f, True), (error("Error"), True)):
            self.same(is_error_class(self.memory, cls), wanted)
            self.same(is_error(self.memory, cls), False)
            self.same(is_error(self.memory, self.instance(cls)), wanted)
            self.same(is_error_class(self.memory, self.instance(cls)), False)
        for value in self.others("class", "instance", "errorclass"):
            self.same(is_error_class(self.memory, value), False)
            self.same(is_error(self.memory, value), False)

    def test_long_chains(self):
        cls = self.e
        for _ in range(5000):
            cls = self.memory.make("class", ("C", ()), [cls])
        self.same(is_within(self.memory, cls, self.e), True)
        self.same(is_error_class(self.memory, cls), True)
        self.same(find_field(self.memory, cls, "x"), number(5))


class TestFields(MemoryCase):

    def test_instances(self):
        base = self.cls("A", x=1, y=2, z=Raw(("builtin", "len")))
        value = self.instance(self.cls("B", base, w=3), y=4, v=[5])
        for name, wanted in (("x", number(1)), ("y", number(4)), ("z", ("builtin", "len")), ("w", number(3))):
            self.same(load_field(self.memory, value, name), wanted)
        self.same(self.got(load_field(self.memory, value, "v")), [5])
        for name in ("u", "append", "init"):
            self.fails("FieldError", load_field, value, name, value=text(name))

    def test_methods(self):
        function = self.function("told")
        cls = self.cls("A", f=Raw(function))
        value = self.instance(self.cls("B", cls), g=Raw(function))
        methods = [load_field(self.memory, value, "f") for _ in range(2)]
        self.assertNotEqual(methods[0], methods[1])
        for method in methods:
            self.same(self.memory.kind_of(method), "method")
            self.same(self.memory.tag_of(method), "f")
            self.same(self.memory.slots_of(method), [value, function])
        # An own attribute stays a function, and so does that of a class which is asked itself.
        self.same(load_field(self.memory, value, "g"), function)
        self.same(load_field(self.memory, cls, "f"), function)
        # Other objects stay as they are.
        other = self.cls("C", m=Raw(methods[0]), c=Raw(cls))
        self.same(load_field(self.memory, self.instance(other), "m"), methods[0])
        self.same(load_field(self.memory, self.instance(other), "c"), cls)

    def test_classes(self):
        cls = self.cls("B", self.cls("A", x=1), y=None)
        self.same(load_field(self.memory, cls, "x"), number(1))
        self.same(load_field(self.memory, cls, "y"), NONE)
        self.fails("FieldError", load_field, cls, "z", value=text("z"))
        self.fails("FieldError", load_field, error("Error"), "message", value=text("message"))

    def test_native_methods(self):
        values = self.objects()
        names = {name for words in NATIVES.values() for name in words.split()} | {"x", "init", "message"}
        for kind, value in values.items():
            for name in sorted(names):
                if name in NATIVES.get(kind, "").split():
                    many = len(self.memory)
                    method = load_field(self.memory, value, name)
                    self.same(method, ("ref", many))
                    self.same((self.memory.kind_of(method), self.memory.tag_of(method)), ("method", name))
                    self.same(self.memory.slots_of(method), [value])
                else:
                    self.fails("FieldError", load_field, value, name, value=text(name))

    def test_store_and_delete(self):
        cls = self.cls("A", x=1)
        value = self.memory.make("instance", (("y",), (("main", 3),)), [cls, number(2)])
        self.same(store_field(self.memory, value, "x", number(5)), None)
        self.same(self.memory.tag_of(value), (("y", "x"), (("main", 3),)))
        self.same(self.memory.slots_of(value), [cls, number(2), number(5)])
        self.same(store_field(self.memory, value, "y", TRUE), None)
        self.same(self.memory.slots_of(value), [cls, TRUE, number(5)])
        self.same(self.memory.slots_of(cls), [NONE, number(1)])
        self.same(delete_field(self.memory, value, "y"), None)
        self.same(self.memory.tag_of(value), (("x",), (("main", 3),)))
        self.same(self.memory.slots_of(value), [cls, number(5)])
        self.fails("FieldError", delete_field, value, "y", value=text("y"))
        store_field(self.memory, value, "y", NONE)
        self.same(self.memory.tag_of(value)[0], ("x", "y"))
        delete_field(self.memory, value, "x")
        self.same(self.memory.slots_of(value), [cls, NONE])
        # The attribute of the class is no attribute of the instance.
        self.fails("FieldError", delete_field, value, "x", value=text("x"))
        self.same(load_field(self.memory, value, "x"), number(1))

    def test_each_attribute_has_its_place(self):
        names = ("a", "b", "c", "d")
        slots = [number(at) for at in range(4)]
        cls = self.cls()
        for at, name in enumerate(names):
            value = self.memory.make("instance", (names, ()), [cls] + slots)
            store_field(self.memory, value, name, TRUE)
            self.same(self.memory.tag_of(value), (names, ()))
            self.same(self.memory.slots_of(value), [cls] + slots[:at] + [TRUE] + slots[at + 1:])
            delete_field(self.memory, value, name)
            self.same(self.memory.tag_of(value), (names[:at] + names[at + 1:], ()))
            self.same(self.memory.slots_of(value), [cls] + slots[:at] + slots[at + 1:])

    def test_other_values(self):
        for value in self.others("instance"):
            self.fails("KindError", store_field, value, "x", NONE)
            self.fails("KindError", delete_field, value, "x")

    def test_sizes(self):
        value = self.instance(self.cls())
        for at in range(60):
            store_field(self.memory, value, "x" + str(at), number(at))
        self.fails("SizeError", store_field, value, "y", NONE)
        self.fails("SizeError", store_field, value, "cause", NONE)
        store_field(self.memory, value, "x7", NONE)
        delete_field(self.memory, value, "x8")
        store_field(self.memory, value, "y", NONE)
        self.same(len(self.memory.tag_of(value)[0]), 60)


if __name__ == "__main__":
    unittest.main()
