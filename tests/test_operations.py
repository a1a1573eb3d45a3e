"""Points 31, 32 and 37 to 40: operators, items and slices."""

import random
import unittest

from likerun.operations import binary, compare, delete_item, load_item, load_slice, store_item, unary
from tests.memories import BIG, FALSE, NONE, TRUE, MemoryCase, Raw, number, text

OPERATORS = ("+", "-", "*", "//", "mod")


class OperationCase(MemoryCase):

    def gives(self, wanted, operation, *given):
        """The operation gives this value and changes none of the objects."""
        before = self.snapshot()
        value = operation(self.memory, *given)
        self.same(self.got(value), wanted)
        self.same(self.snapshot()[:len(before)], before)
        return value

    def gives_new(self, wanted, operation, *given):
        """The value is a new object."""
        many = len(self.memory)
        value = self.gives(wanted, operation, *given)
        self.same(value, ("ref", many))
        self.same(len(self.memory), many + 1)


class TestUnary(OperationCase):

    def test_not(self):
        for thing, wanted in ((None, True), (0, True), ("", True), ([], True), ((), True), ({}, True), (False, True), (1, False),
                              ("a", False), ([0], False), (True, False)):
            self.gives(wanted, unary, "not", self.put(thing))
        for value in self.others("none"):
            self.gives(False, unary, "not", value)

    def test_minus(self):
        for n in (0, 1, -1, BIG, -BIG):
            self.gives(-n, unary, "-", number(n))
        for value in self.others("number"):
            self.fails("KindError", unary, "-", value)


class TestBinary(OperationCase):

    def test_numbers(self):
        for a in (-7, -6, -1, 0, 1, 2, 7, 10 ** 30):
            for b in (-3, -2, -1, 0, 1, 2, 3, 10 ** 29):
                self.gives(a + b, binary, "+", number(a), number(b))
                self.gives(a - b, binary, "-", number(a), number(b))
                self.gives(a * b, binary, "*", number(a), number(b))
                if b:
                    self.gives(a // b, binary, "//", number(a), number(b))
                    self.gives(a - a // b * b, binary, "mod", number(a), number(b))
                else:
                    self.fails("ZeroError", binary, "//", number(a), number(b))
                    self.fails("ZeroError", binary, "mod", number(a), number(b))

    def test_signs_of_quotients_and_remainders(self):
        for a, b, quotient, remainder in ((7, 2, 3, 1), (-7, 2, -4, 1), (7, -2, -4, -1), (-7, -2, 3, -1), (6, -2, -3, 0),
                                          (0, -5, 0, 0), (1, -5, -1, -4), (-1, 5, -1, 4)):
            self.gives(quotient, binary, "//", number(a), number(b))
            self.gives(remainder, binary, "mod", number(a), number(b))

    def test_sizes_of_numbers(self):
        for sign in (1, -1):
            self.gives(sign * BIG, binary, "+", number(sign * (BIG - 1)), number(sign))
            self.fails("SizeError", binary, "+", number(sign * BIG), number(sign))
            self.gives(sign * BIG, binary, "-", number(sign * (BIG - 1)), number(-sign))
            self.fails("SizeError", binary, "-", number(sign * BIG), number(-sign))
            self.gives(sign * 10 ** 59, binary, "*", number(sign * 10 ** 29), number(10 ** 30))
            self.fails("SizeError", binary, "*", number(sign * 10 ** 30), number(10 ** 30))
            self.gives(sign * BIG, binary, "*", number(sign), number(BIG))
            self.gives(sign * BIG, binary, "//", number(BIG), number(sign))
            self.gives(-sign * BIG, binary, "//", number(-BIG), number(sign))
            self.gives(BIG - 1 if sign > 0 else -1, binary, "mod", number(BIG - 1), number(sign * BIG))

    def test_joining(self):
        self.gives("ab", binary, "+", text("a"), text("b"))
        self.gives("", binary, "+", text(""), text(""))
        self.gives_new([1, 2], binary, "+", self.put([1]), self.put([2]))
        self.gives_new((1, 2), binary, "+", self.put((1,)), self.put((2,)))
        for thing in ([], (), [1], (1,)):
            value = self.put(thing)
            self.gives_new(thing + thing, binary, "+", value, value)

    def test_sizes_of_what_is_joined(self):
        self.gives("a" * 500, binary, "+", text("a" * 250), text("a" * 250))
        self.fails("SizeError", binary, "+", text("a" * 250), text("a" * 251))
        for make in (list, tuple):
            self.gives_new(make([1] * 200), binary, "+", self.put(make([1] * 100)), self.put(make([1] * 100)))
            self.fails("SizeError", binary, "+", self.put(make([1] * 200)), self.put(make([1])))

    def repeat(self, thing, times, wanted, new):
        for turn in range(2):
            given = [self.put(thing), number(times)]
            if turn:
                given.reverse()
            (self.gives_new if new else self.gives)(wanted, binary, "*", *given)

    def test_repeating(self):
        for thing, new in (("ab", False), ([1, 2], True), ((1, 2), True)):
            for times in (0, 1, 2, 3, -1, -(10 ** 59)):
                self.repeat(thing, times, thing * max(0, min(times, 5)), new)
        for thing, new in (("", False), ([], True), ((), True)):
            for times in (0, 1, 7, -7, BIG, -BIG):
                self.repeat(thing, times, thing, new)
        for thing, new in ((["a"], True), (("a",), True), ("a", False)):
            self.repeat(thing, 1, thing, new)

    def test_sizes_of_what_is_repeated(self):
        self.repeat("ab", 250, "ab" * 250, False)
        self.repeat([1, 2], 100, [1, 2] * 100, True)
        self.repeat((1, 2), 100, (1, 2) * 100, True)
        for thing, times in (("ab", 251), ([1, 2], 101), ((1, 2), 101), ("a", BIG), ([1], BIG), ((1,), BIG), ("a" * 500, 2)):
            self.fails("SizeError", binary, "*", self.put(thing), number(times))
            self.fails("SizeError", binary, "*", number(times), self.put(thing))

    def test_other_operands(self):
        first = self.objects()
        second = self.objects()
        for op in OPERATORS:
            for a in first:
                for b in second:
                    self.assertLess(len(self.memory), 100)
                    good = a == b == "number" or op == "+" and a == b and a in ("text", "list", "tuple")
                    good = good or op == "*" and "number" in (a, b) and {a, b} & {"text", "list", "tuple"}
                    if not good:
                        self.fails("KindError", binary, op, first[a], second[b])
        # Truths are no numbers, and the kinds are asked before the zero.
        self.fails("KindError", binary, "+", TRUE, number(1))
        self.fails("KindError", binary, "*", text("a"), TRUE)
        self.fails("KindError", binary, "//", text("a"), number(0))
        self.fails("KindError", binary, "*", text("a"), text("a"))
        self.fails("KindError", binary, "+", self.put([1]), self.put((1,)))


class TestCompare(OperationCase):

    def check(self, op, a, b, wanted):
        self.same(compare(self.memory, op, self.put(a), self.put(b)), ("truth", wanted))

    def test_equality_and_order(self):
        self.check("==", [1], [1], True)
        self.check("!=", [1], [1], False)
        self.check("==", True, 1, False)
        self.check("!=", True, 1, True)
        for op, wanted in (("<", True), ("<=", True), (">", False), (">=", False)):
            self.check(op, 1, 2, wanted)
            self.check(op, (1, "a"), (1, "b"), wanted)
            self.check(op, "a", "b", wanted)
            self.fails("KindError", compare, op, NONE, NONE)
            self.fails("KindError", compare, op, TRUE, FALSE)

    def test_is(self):
        a, b = self.put([1]), self.put([1])
        for x, y, wanted in ((a, a, True), (a, b, False), (number(1), number(1), True), (text("a"), text("a"), True),
                             (TRUE, number(1), False), (NONE, NONE, True), (NONE, FALSE, False),
                             (("builtin", "len"), ("builtin", "len"), True)):
            self.same(compare(self.memory, "is", x, y), ("truth", wanted))
            self.same(compare(self.memory, "is not", x, y), ("truth", not wanted))

    def is_in(self, a, b, wanted):
        self.check("in", a, b, wanted)
        self.check("not in", a, b, not wanted)

    def not_asked(self, name, a, b):
        for op in ("in", "not in"):
            self.fails(name, compare, op, self.put(a), self.put(b))

    def test_in_texts(self):
        for a, b, wanted in (("", "", True), ("", "a", True), ("bc", "abcd", True), ("cb", "abcd", False), ("abcde", "abcd", False)):
            self.is_in(a, b, wanted)
        for value in self.others("text"):
            self.not_asked("KindError", Raw(value), "abc")

    def test_in_sequences(self):
        for a, b, wanted in ((1, [1], True), (1, [2, 1], True), (1, [], False), (True, [1], False), ([1], [[2], [1]], True),
                             ([1], [(1,)], False), ("a", ["abc"], False), (None, [None], True)):
            self.is_in(a, b, wanted)
            self.is_in(a, tuple(b), wanted)
        value = self.function()
        self.is_in(Raw(value), [Raw(value)], True)
        self.is_in(Raw(self.function()), [Raw(value)], False)

    def test_each_item_has_a_count_of_its_own(self):
        rows = [self.memory.make("list", None, [number(1)] * 900 + [number(at)]) for at in range(3)]
        self.is_in(Raw(self.memory.make("list", None, [number(1)] * 900 + [number(2)])), [Raw(row) for row in rows], True)
        long = self.memory.make("list", None, [number(1)] * 1000)
        other = self.memory.make("list", None, [number(1)] * 1000)
        self.not_asked("SizeError", Raw(long), [1, Raw(other), Raw(long)])
        self.is_in(Raw(long), [1, Raw(long), Raw(other)], True)
        loop = self.memory.make("list", None, [NONE])
        self.memory.set_slot(loop, 0, loop)
        self.is_in(Raw(loop), Raw(loop), True)

    def test_in_dicts(self):
        table = {"a": 1, 2: None, (1, "b"): 3, None: 0, True: 1}
        for key in table:
            self.is_in(key, table, True)
        for key in ("b", 1, 0, False, (1, "c"), ()):
            self.is_in(key, table, False)
        self.not_asked("KindError", [], table)
        self.not_asked("KindError", ((),), {})
        self.not_asked("KindError", Raw(("builtin", "len")), {})

    def test_in_other_values(self):
        for value in self.others("text", "list", "tuple", "dict"):
            self.not_asked("KindError", 1, Raw(value))
            self.not_asked("KindError", "a", Raw(value))


class TestItems(OperationCase):

    def changed(self, wanted, operation, value, *given):
        self.same(operation(self.memory, value, *given), None)
        self.same(self.got(value), wanted)

    def test_load(self):
        for thing in ("abc", ["a", "b", "c"], ("a", "b", "c")):
            for index in range(-3, 3):
                self.gives(thing[index], load_item, self.put(thing), number(index))
            for index in (3, -4, BIG, -BIG):
                self.fails("RangeError", load_item, self.put(thing), number(index))
            for value in self.others("number"):
                self.fails("KindError", load_item, self.put(thing), value)
        for thing in ("", [], ()):
            self.fails("RangeError", load_item, self.put(thing), number(0))
            self.fails("RangeError", load_item, self.put(thing), number(-1))

    def test_load_keys(self):
        table = {"a": 1, 2: [3], (1, "b"): 4, None: 5, (): 6}
        for key in table:
            self.gives(table[key], load_item, self.put(table), self.put(key))
        for key in ("b", 1, True, False, (1,), 0):
            value = self.put(key)
            self.fails("KeyError", load_item, self.put(table), value, value=value)
        for value in self.others("none", "truth", "number", "text", "tuple"):
            self.fails("KindError", load_item, self.put(table), value)
        self.fails("KindError", load_item, self.put(table), self.put(((),)))
        self.fails("KindError", load_item, self.put({}), self.put([1]))

    def test_other_values(self):
        for value in self.others("text", "list", "tuple", "dict"):
            self.fails("KindError", load_item, value, number(0))
        for value in self.others("list", "dict"):
            # The value is asked before the index.
            for index in (number(0), number(9), NONE, self.put([])):
                self.fails("KindError", store_item, value, index, NONE)
                self.fails("KindError", delete_item, value, index)

    def test_store(self):
        for index, wanted in ((0, ["x", 2, 3]), (2, [1, 2, "x"]), (-1, [1, 2, "x"]), (-3, ["x", 2, 3])):
            self.changed(wanted, store_item, self.put([1, 2, 3]), number(index), text("x"))
        for index in (3, -4, BIG):
            self.fails("RangeError", store_item, self.put([1, 2, 3]), number(index), NONE)
        for value in self.others("number"):
            self.fails("KindError", store_item, self.put([1, 2, 3]), value, NONE)
        self.fails("RangeError", store_item, self.put([]), number(0), NONE)

    def slots(self, value):
        return self.memory.slots_of(value)

    def test_store_keys(self):
        value = self.put({"a": 1, "b": 2})
        self.changed({"a": 1, "b": 3}, store_item, value, text("b"), number(3))
        self.changed({"a": 4, "b": 3}, store_item, value, text("a"), number(4))
        self.changed({"a": 4, "b": 3, 1: 5}, store_item, value, number(1), number(5))
        self.same(self.slots(value), [text("a"), number(4), text("b"), number(3), number(1), number(5)])
        # The key that is there stays: it is another object than the equal one.
        key = self.put((1, 2))
        value = self.memory.make("dict", None, [key, NONE])
        store_item(self.memory, value, self.put((1, 2)), TRUE)
        self.same(self.slots(value), [key, TRUE])
        for bad in self.others("none", "truth", "number", "text", "tuple"):
            self.fails("KindError", store_item, value, bad, NONE)
        self.same(self.memory.tag_of(value), None)

    def test_sizes_of_dicts(self):
        value = self.put({at: 0 for at in range(99)})
        store_item(self.memory, value, text("a"), NONE)
        self.same(len(self.slots(value)), 200)
        self.fails("SizeError", store_item, value, text("b"), NONE)
        self.fails("KindError", store_item, value, self.put([]), NONE)
        store_item(self.memory, value, text("a"), TRUE)
        store_item(self.memory, value, number(0), TRUE)
        self.same(len(self.slots(value)), 200)

    def test_delete(self):
        for index, wanted in ((0, [2, 3]), (1, [1, 3]), (2, [1, 2]), (-1, [1, 2]), (-3, [2, 3])):
            self.changed(wanted, delete_item, self.put([1, 2, 3]), number(index))
        for index in (3, -4):
            self.fails("RangeError", delete_item, self.put([1, 2, 3]), number(index))
        for value in self.others("number"):
            self.fails("KindError", delete_item, self.put([1, 2, 3]), value)
        for key, wanted in (("a", {1: 2, (3,): 4}), (1, {"a": 0, (3,): 4}), ((3,), {"a": 0, 1: 2})):
            self.changed(wanted, delete_item, self.put({"a": 0, 1: 2, (3,): 4}), self.put(key))
        missing = self.put((4,))
        self.fails("KeyError", delete_item, self.put({"a": 0}), missing, value=missing)
        self.fails("KeyError", delete_item, self.put({}), NONE, value=NONE)
        self.fails("KindError", delete_item, self.put({}), self.put([]))


class TestSlices(OperationCase):

    def check(self, thing, low, high, step):
        self.setUp()
        value = self.put(thing)
        given = [self.put(part) for part in (low, high, step)]
        wanted = thing[slice(low, high, step)]
        if isinstance(thing, str):
            self.gives(wanted, load_slice, value, *given)
        else:
            self.gives_new(wanted, load_slice, value, *given)

    def test_against_python(self):
        bounds = (None, 0, 1, 3, 4, 5, 6, -1, -3, -4, -5, -6, 9, -9, BIG, -BIG)
        for thing in ("abcde", [1, 2, 3, 4], (), ""):
            for low in bounds:
                for high in bounds:
                    for step in (None, 1, 2, 3, -1, -2, -3, 7, -7, BIG, -BIG):
                        self.check(thing, low, high, step)
        rng = random.Random(40)
        for _ in range(500):
            thing = rng.choice([list, tuple])(range(rng.randrange(7)))
            self.check(thing, *[rng.choice([None] + list(range(-8, 9))) for _ in range(2)], rng.choice([None, 1, -1, 2, -2, 3, -3]))

    def test_new_objects(self):
        value = self.put([1, 2])
        part = load_slice(self.memory, value, NONE, NONE, NONE)
        self.assertNotEqual(part, value)
        self.same(self.memory.kind_of(part), "list")
        inner = self.put([[1]])
        self.same(self.memory.slots_of(load_slice(self.memory, inner, NONE, NONE, NONE)), self.memory.slots_of(inner))

    def test_faults(self):
        for value in self.others("text", "list", "tuple"):
            self.fails("KindError", load_slice, value, NONE, NONE, NONE)
            self.fails("KindError", load_slice, value, NONE, NONE, number(0))
        for thing in ("abc", [1], (1,)):
            self.fails("ValueError", load_slice, self.put(thing), NONE, NONE, number(0))
            self.fails("ValueError", load_slice, self.put(thing), number(1), number(2), number(0))
            for value in self.others("number", "none"):
                self.fails("KindError", load_slice, self.put(thing), value, NONE, NONE)
                self.fails("KindError", load_slice, self.put(thing), NONE, value, NONE)
                self.fails("KindError", load_slice, self.put(thing), NONE, NONE, value)
                # The kinds are asked before the step 0.
                self.fails("KindError", load_slice, self.put(thing), value, NONE, number(0))


if __name__ == "__main__":
    unittest.main()
