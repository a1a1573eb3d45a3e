"""Point 44: values as strings."""

import unittest

from likerun.showing import show, text_of
from tests.memories import BIG, NONE, MemoryCase, Raw, number, text


class TestShow(MemoryCase):

    def check(self, thing, wanted):
        value = self.put(thing)
        before = self.snapshot()
        self.same(show(self.memory, value), wanted)
        self.same(text_of(self.memory, value), value[1] if value[0] == "text" else wanted)
        self.same(self.snapshot(), before)

    def refused(self, thing):
        value = self.put(thing)
        self.fails("SizeError", show, value)
        if value[0] != "text":
            self.fails("SizeError", text_of, value)

    def test_example_of_the_interface(self):
        self.check([-1, "a"], '[-1, "a"]')

    def test_plain(self):
        for thing, wanted in ((None, "None"), (True, "True"), (False, "False"), (0, "0"), (-12, "-12"), (BIG, "9" * 60),
                              (-BIG, "-" + "9" * 60), ("", '""'), ("it's", '"it\'s"'), ('a"b\\c\nd', '"a\\"b\\\\c\\nd"'),
                              (Raw(("builtin", "len")), "<builtin len>"), (Raw(("errorclass", "KeyError")), "<class KeyError>")):
            self.check(thing, wanted)

    def test_sequences_and_dicts(self):
        for thing, wanted in (([], "[]"), ((), "()"), ({}, "{}"), ((1,), "(1,)"), ((1, 2), "(1, 2)"), ([1], "[1]"),
                              ([1, [2, (3,)]], "[1, [2, (3,)]]"), ({"a": 1, (1, 2): []}, '{"a": 1, (1, 2): []}'),
                              ([None, True], "[None, True]"), ({1: {2: 3}}, "{1: {2: 3}}"), (((),), "((),)")):
            self.check(thing, wanted)

    def test_objects(self):
        function = self.function("told", 3)
        cls = self.cls("A", x=1)
        for value, wanted in (
                (function, "<function told>"), (self.function("lambda"), "<function lambda>"),
                (self.memory.make("method", "f", [self.instance(cls), function]), "<method f>"),
                (self.memory.make("method", "append", [self.put([])]), "<method append>"), (cls, "<class A>"),
                (self.instance(cls, x=2), "<A object>"), (self.instance(self.cls("B", cls)), "<B object>"),
                (self.generator("waiting", "count"), "<generator count>"), (self.generator("ended", "g"), "<generator g>"),
                (self.memory.make("iterator", (-1, 0), [text("")]), "<iterator>"),
                (self.memory.make("cell", None, [("unset",)]), "<cell>")):
            self.check(Raw(value), wanted)
            self.check([Raw(value)], "[" + wanted + "]")

    def test_errors(self):
        cls = self.cls("E", ("errorclass", "KeyError"), message=7)
        for base, name in ((("errorclass", "ZeroError"), "ZeroError"), (cls, "E"), (self.cls("F", cls), "F")):
            self.check(Raw(self.instance(base)), name + "()")
            self.check(Raw(self.instance(base, message=None)), name + "()")
            self.check(Raw(self.instance(base, other=1)), name + "()")
            self.check(Raw(self.instance(base, message=0)), name + "(0)")
            self.check(Raw(self.instance(base, other=1, message="a")), name + '("a")')
            self.check(Raw(self.instance(base, message=[1, (2,)], cause=3)), name + "([1, (2,)])")
            self.check(Raw(base), "<class " + name + ">")

    def loop(self, kind, slots=(), where=0):
        value = self.memory.make(kind, None, list(slots) + [NONE])
        self.memory.set_slot(value, len(slots), value)
        return value

    def test_cycles(self):
        self.check(Raw(self.loop("list")), "[...]")
        self.check(Raw(self.loop("list", [number(1)])), "[1, ...]")
        self.check(Raw(self.loop("tuple")), "(...,)")
        self.check(Raw(self.loop("dict", [text("a")])), '{"a": ...}')
        error = self.instance(("errorclass", "Error"), message=None)
        self.memory.set_slot(error, 1, error)
        self.check(Raw(error), "Error(...)")
        a, b = self.put([None]), self.put([None, 1])
        self.memory.set_slot(a, 0, b)
        self.memory.set_slot(b, 0, a)
        self.check(Raw(a), "[[..., 1]]")
        self.check(Raw(b), "[[...], 1]")
        # Shown twice, but not within itself.
        part = self.put([1])
        self.check([Raw(part), Raw(part)], "[[1], [1]]")
        error = self.instance(("errorclass", "Error"), message=Raw(part))
        self.check([Raw(error), Raw(part), Raw(error)], "[Error([1]), [1], Error([1])]")
        self.check({1: Raw(part), 2: (Raw(part), Raw(part))}, "{1: [1], 2: ([1], [1])}")

    def nested(self, many, inner, kinds=("list",)):
        """Return so many objects within each other around a value."""
        value = inner
        for at in range(many):
            kind = kinds[at % len(kinds)]
            if kind == "error":
                value = self.instance(("errorclass", "Error"), message=Raw(value))
            elif kind == "dict":
                value = self.memory.make("dict", None, [number(1), value])
            else:
                value = self.memory.make(kind, None, [value])
        return value

    def test_nesting(self):
        self.check(Raw(self.nested(30, number(1))), "[" * 30 + "1" + "]" * 30)
        self.refused(Raw(self.nested(31, number(1))))
        self.refused(Raw(self.nested(30, self.put([]))))
        self.check(Raw(self.nested(29, self.put(()))), "[" * 29 + "()" + "]" * 29)
        self.refused(Raw(self.nested(20000, number(1))))
        for kinds in (("tuple",), ("dict",), ("error",), ("list", "tuple", "dict", "error")):
            self.assertIsInstance(show(self.memory, self.nested(30, text("a"), kinds)), str)
            self.refused(Raw(self.nested(31, text("a"), kinds)))
        self.refused(Raw(self.nested(30, self.instance(("errorclass", "Error")))))
        # These are no such objects.
        for value in (self.instance(self.cls()), self.function(), self.generator(), self.cls()):
            self.assertIsInstance(show(self.memory, self.nested(30, value)), str)

    def test_being_shown_and_beyond_30(self):
        bottom = self.memory.make("list", None, [NONE])
        top = self.nested(29, bottom)
        for value in (top, bottom):
            self.memory.set_slot(bottom, 0, value)
            self.check(Raw(top), "[" * 30 + "..." + "]" * 30)
        self.memory.set_slot(bottom, 0, self.put([]))
        self.refused(Raw(top))

    def test_sizes(self):
        self.check("a" * 498, '"' + "a" * 498 + '"')
        self.refused("a" * 499)
        self.same(text_of(self.memory, text("a" * 500)), "a" * 500)
        self.check('"' * 249, '"' + '\\"' * 249 + '"')
        self.refused('"' * 249 + "a")
        for sign, shown in (("\n", "\\n"), ("\\", "\\\\"), ('"', '\\"')):
            self.check(sign * 249, '"' + shown * 249 + '"')
            self.refused(sign * 250)
        self.refused("\\" * 500)
        self.check([10 ** 59] * 8 + [10], "[1" + "0" * 59 + (", 1" + "0" * 59) * 7 + ", 10]")
        self.refused([10 ** 59] * 8 + [100])
        wanted = "[" + ", ".join(["1"] * 166) + "]"
        self.same(len(wanted), 498)
        self.check([1] * 166, wanted)
        self.check([1] * 165 + [100], wanted[:-2] + "100]")
        self.refused([1] * 165 + [1000])
        self.refused([1] * 167)
        self.check(("a" * 490,) * 1, '("' + "a" * 490 + '",)')
        self.check("a" * 495, '"' + "a" * 495 + '"')
        self.check(("a" * 495,), '("' + "a" * 495 + '",)')
        self.refused(("a" * 496,))
        self.check(Raw(self.instance(("errorclass", "Error"), message="a" * 491)), 'Error("' + "a" * 491 + '")')
        self.refused(Raw(self.instance(("errorclass", "Error"), message="a" * 492)))

    def test_many_ways_to_one_object(self):
        value = self.put([])
        for _ in range(28):
            value = self.memory.make("list", None, [value] * 3)
        self.refused(Raw(value))


if __name__ == "__main__":
    unittest.main()
