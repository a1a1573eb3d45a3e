"""Point 50: the measure and the pictures of objects."""

import random
import unittest

from likerun.heap import Heap
from likerun.pictures import draw, measure
from tests.memories import BIG, NONE, MemoryCase, Raw, number, text


class TestPictures(MemoryCase):

    def row(self, value):
        """Return the row and the size of an object, without what lies behind it."""
        shown, rows = draw(self.memory, [("x", value)])
        self.same(shown, [("x", "#1")])
        return rows[0]

    def check(self, value, row, size):
        """The row of an object that holds only plain values, and its size."""
        before = self.snapshot()
        self.same(self.row(value), row)
        self.same(measure(self.memory, [value]), size)
        self.same(self.snapshot(), before)

    def test_rows_and_sizes(self):
        make = self.memory.make
        for value, row, size in (
                (self.put([]), "#1 list", 2), (self.put([1, "a"]), '#1 list 1 "a"', 4), (self.put(()), "#1 tuple", 2),
                (self.put((None, True, False)), "#1 tuple None True False", 5), (self.put({}), "#1 dict", 2),
                (self.put({"a": 1}), '#1 dict "a" 1', 4), (make("cell", None, [("unset",)]), "#1 cell unset", 3),
                (make("cell", None, [number(-5)]), "#1 cell -5", 3), (self.function("f"), "#1 function f", 2),
                (self.function("lambda", 2, [NONE, text("")]), '#1 function lambda None ""', 4),
                (self.cls("A"), "#1 class A () None", 3), (self.cls("A", x=1, y="b"), '#1 class A (x y) None 1 "b"', 5),
                (self.cls("E", ("errorclass", "KeyError")), "#1 class E () <class KeyError>", 3),
                (make("instance", ((), ()), [("errorclass", "Error")]), "#1 instance () <class Error>", 3),
                (make("instance", (("a", "b"), (("main", 1),)), [("errorclass", "Error"), NONE, number(1)]),
                 "#1 instance (a b) <class Error> None 1", 5),
                (make("iterator", (0, 2), [text("ab")]), '#1 iterator 0 "ab"', 3),
                (make("iterator", (12, 2), [text("ab")]), '#1 iterator 12 "ab"', 3),
                (make("iterator", (-1, 2), [text("ab")]), '#1 iterator ended "ab"', 3),
                (make("method", "upper", [text("ab")]), '#1 method upper "ab"', 3),
                (self.put([Raw(("builtin", "len"))]), "#1 list <builtin len>", 3)):
            self.check(value, row, size)

    def test_generators(self):
        for state, row in (("new", "#1 generator g new 3 (a b) 1 unset"), ("waiting", "#1 generator g waiting 3 (a b) 1 unset"),
                           ("running", "#1 generator g running"), ("ended", "#1 generator g ended")):
            slots = [number(1), ("unset",)] if state in ("new", "waiting") else []
            value = self.generator(state, "g", slots, ("a", "b"), 3)
            self.check(value, row, 4)
        self.check(self.generator("new", "g", [], (), 2), "#1 generator g new 2 ()", 2)
        self.check(self.generator("ended", "g", [], (), 2), "#1 generator g ended", 2)

    def test_what_a_generator_holds_besides_is_not_seen(self):
        hidden = self.put([1, 2, 3])
        seen = self.put([4])
        slots = [seen, ("unset",), hidden, ("handled", hidden[1]), ("pending", 1, hidden)]
        for state, size, rows in (("new", 7, ["#1 generator g new 1 (a b) #2 unset", "#2 list 4"]),
                                  ("waiting", 7, ["#1 generator g waiting 1 (a b) #2 unset", "#2 list 4"]),
                                  ("running", 4, ["#1 generator g running"]), ("ended", 4, ["#1 generator g ended"])):
            value = self.generator(state, "g", slots, ("a", "b"))
            self.same(measure(self.memory, [value]), size)
            self.same(draw(self.memory, [("x", value)]), ([("x", "#1")], rows))

    def test_words(self):
        names = [("a", NONE), ("b", ("truth", True)), ("c", number(-BIG)), ("d", text('q"\n\\')), ("e", ("builtin", "print")),
                 ("f", ("errorclass", "Error")), ("g", ("unset",)), ("h", self.put([])), ("a", number(1))]
        before = list(names)
        self.same(draw(self.memory, names), (
            [("a", "None"), ("b", "True"), ("c", "-" + "9" * 60), ("d", '"q\\"\\n\\\\"'), ("e", "<builtin print>"),
             ("f", "<class Error>"), ("g", "unset"), ("h", "#1"), ("a", "1")], ["#1 list"]))
        self.same(names, before)
        self.same(draw(self.memory, []), ([], []))
        self.same(measure(self.memory, []), 0)
        self.same(measure(self.memory, [NONE, number(5), ("unset",), ("builtin", "len")]), 0)

    def test_marks_among_the_entries_that_are_measured(self):
        a, b = self.put([1]), self.put([1, 2])
        self.same(measure(self.memory, [("handled", a[1]), ("pending", 1, b), ("pending", 4, ("handled", a[1])),
                                        ("pending", 0, NONE), ("unset",)]), 7)

    def test_long_texts_are_written_in_full(self):
        value = self.put(["\"" * 500])
        self.same(draw(self.memory, [("x", value), ("y", text("\n" * 500))]),
                  ([("x", "#1"), ("y", '"' + "\\n" * 500 + '"')], ['#1 list "' + '\\"' * 500 + '"']))

    def test_numbers(self):
        inner = self.put([1])
        a = self.put([Raw(inner), (2,)])
        b = self.put({"k": Raw(a), "m": Raw(inner)})
        names = [("x", b), ("y", inner), ("z", b)]
        self.same(draw(self.memory, names), (
            [("x", "#1"), ("y", "#2"), ("z", "#1")],
            ['#1 dict "k" #3 "m" #2', "#2 list 1", "#3 list #2 #4", "#4 tuple 2"]))
        self.same(measure(self.memory, [b, inner, b]), 6 + 3 + 4 + 3)
        self.same(draw(self.memory, [("y", inner), ("x", b)])[1],
                  ["#1 list 1", '#2 dict "k" #3 "m" #1', "#3 list #1 #4", "#4 tuple 2"])

    def test_cycles(self):
        a, b = self.put([None]), self.put((None,))
        self.memory.set_slot(a, 0, b)
        self.memory.set_slot(b, 0, a)
        self.same(draw(self.memory, [("a", a)]), ([("a", "#1")], ["#1 list #2", "#2 tuple #1"]))
        self.same(measure(self.memory, [a]), 6)
        method = self.memory.make("method", "f", [self.instance(self.cls("A")), self.function("f", 1, [a])])
        self.same(draw(self.memory, [("m", method)])[1],
                  ["#1 method f #2 #3", "#2 instance () #4", "#3 function f #5", "#4 class A () None", "#5 list #6", "#6 tuple #5"])
        self.same(measure(self.memory, [method]), 4 + 3 + 3 + 3 + 6)

    def test_many_objects_within_each_other(self):
        value = self.put([])
        for _ in range(20000):
            value = self.memory.make("list", None, [value])
        self.same(measure(self.memory, [value]), 60002)
        rows = draw(self.memory, [("x", value)])[1]
        self.same((rows[0], rows[19999], rows[20000]), ("#1 list #2", "#20000 list #20001", "#20001 list"))

    def test_pictures_do_not_ask_where_objects_lie(self):
        rng = random.Random(50)
        self.memory = Heap()
        values = [self.put([1])]
        for _ in range(60):
            kind = rng.choice(["list", "tuple", "cell"])
            values.append(self.memory.make(kind, None, [rng.choice(values) for _ in range(rng.randrange(3))]))
        names = [("n" + str(at), value) for at, value in enumerate(values[-5:])]
        drawn, size = draw(self.memory, names), measure(self.memory, values[-5:])
        for full in (False, False, True, False):
            found = self.memory.collect([value for _, value in names], full)
            names = [(name, value) for (name, _), value in zip(names, found)]
            self.same(draw(self.memory, names), drawn)
            self.same(measure(self.memory, found), size)


if __name__ == "__main__":
    unittest.main()
