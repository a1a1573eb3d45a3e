"""Points 31 and 33 to 36 and 45: error classes, truth, equality, order, keys and kinds."""

import unittest

from likerun.heap import Heap
from likerun.values import BUILTINS, ERROR_CLASSES, equal, is_key, is_true, kind_word, ordered
from tests.memories import FALSE, NONE, TRUE, MemoryCase, Raw, number, text

OPS = ("<", "<=", ">", ">=")


class TestWords(MemoryCase):

    def test_error_classes(self):
        self.same(ERROR_CLASSES, (
            ("Error", ""), ("KindError", "Error"), ("ValueError", "Error"), ("NameError", "Error"), ("FieldError", "Error"),
            ("FindError", "Error"), ("ZeroError", "Error"), ("SizeError", "Error"), ("DepthError", "Error"),
            ("StopError", "Error"), ("CloseError", "Error"), ("FlowError", "Error"), ("RangeError", "FindError"),
            ("KeyError", "FindError")))

    def test_builtins(self):
        self.same(BUILTINS, tuple("print len range str repr int abs min max list tuple isinstance iter next take "
                                  "kind".split()))

    def test_kinds(self):
        for kind, value in self.objects().items():
            self.same(kind_word(self.memory, value), "class" if kind == "errorclass" else kind)

    def test_truth(self):
        for thing in (None, False, 0, "", [], (), {}):
            self.same(is_true(self.memory, self.put(thing)), False)
        for thing in (True, 1, -1, " ", "0", [0], (0,), [[]], {"": 0}):
            self.same(is_true(self.memory, self.put(thing)), True)
        for value in self.others("none", "truth", "number", "text", "list", "tuple", "dict"):
            self.same(is_true(self.memory, value), True)
        # A used-up iterator, an empty cell, a class without attributes.
        self.same(is_true(self.memory, self.memory.make("iterator", (-1, 0), [text("")])), True)
        self.same(is_true(self.memory, self.memory.make("cell", None, [("unset",)])), True)


class TestEqual(MemoryCase):

    def check(self, a, b, wanted):
        before = self.snapshot()
        self.same(equal(self.memory, a, b), wanted)
        self.same(equal(self.memory, b, a), wanted)
        self.same(self.snapshot(), before)

    def test_plain(self):
        plain = [NONE, TRUE, FALSE, number(0), number(1), number(-1), text(""), text("a"), text("1"), ("builtin", "len"),
                 ("builtin", "int"), ("errorclass", "Error"), ("errorclass", "KeyError")]
        for at, a in enumerate(plain):
            for to, b in enumerate(plain):
                self.check(a, b, at == to)

    def test_objects(self):
        one = self.objects()
        other = self.objects()
        for kind, value in one.items():
            self.check(value, value, True)
            wanted = kind in ("none", "truth", "number", "text", "builtin", "errorclass", "list", "tuple", "dict")
            self.check(value, other[kind], wanted)
            for word in one:
                if word != kind:
                    self.check(value, one[word], False)

    def test_sequences(self):
        for a, b, wanted in (
                ([], [], True), ([1], [1], True), ([1], [2], False), ([1], [1, 2], False), ((), (), True), ((1, 2), (1, 2), True),
                ([1], (1,), False), ([[1], (2, [])], [[1], (2, [])], True), ([[1], (2, [])], [[1], [2, []]], False),
                ([True], [1], False), ([0], [False], False), ([None], [0], False), (["1"], [1], False)):
            self.check(self.put(a), self.put(b), wanted)

    def test_dicts(self):
        for a, b, wanted in (
                ({}, {}, True), ({"a": 1}, {"a": 1}, True), ({"a": 1}, {"a": 2}, False), ({"a": 1}, {"b": 1}, False),
                ({"a": 1, "b": 2}, {"b": 2, "a": 1}, True), ({"a": 1}, {"a": 1, "b": 2}, False), ({1: []}, {1: []}, True),
                ({"1": 0}, {1: 0}, False), ({"a": {}}, {"a": {}}, True), ({}, [], False), ({(1, 2): 3}, {(1, 2): 3}, True),
                ({(1, 2): 3}, {(2, 1): 3}, False), ({(): 1}, {(): 1}, True)):
            self.check(self.put(a), self.put(b), wanted)
        one = self.memory.make("dict", None, [TRUE, NONE, number(1), NONE])
        other = self.memory.make("dict", None, [number(1), NONE, TRUE, NONE])
        self.check(one, other, True)
        self.check(self.memory.make("dict", None, [TRUE, NONE]), self.memory.make("dict", None, [number(1), NONE]), False)

    def nested(self, depth, end=1):
        value = self.put([end])
        for _ in range(depth):
            value = self.memory.make("list", None, [value])
        return value

    def test_count(self):
        # The pair itself and so many items.
        for many, fits in ((998, True), (999, True), (1000, False)):
            a = self.memory.make("list", None, [number(1)] * many)
            b = self.memory.make("list", None, [number(1)] * many)
            if fits:
                self.check(a, b, True)
            else:
                self.fails("SizeError", equal, a, b)
            c = self.memory.make("tuple", None, [number(1)] * many)
            self.check(a, c, False)

    def test_count_in_nested_values(self):
        # 998 lists within each other: 999 pairs of lists and one of numbers.
        self.check(self.nested(998), self.nested(998), True)
        self.fails("SizeError", equal, self.nested(999), self.nested(999))
        self.check(self.nested(20000), self.put([2]), False)
        self.fails("SizeError", equal, self.nested(20000), self.nested(20000))
        same = self.nested(20000)
        self.check(same, same, True)
        self.check(self.memory.make("list", None, [same]), self.memory.make("list", None, [same]), True)

    def test_count_in_dicts(self):
        rows = {at: [at] * 9 for at in range(99)}
        # 1 for the dicts, 99 for the values, 891 for the items: 991.
        rows["more"] = [0] * 8
        self.check(self.put(rows), self.put(rows), True)
        rows["more"] = [0] * 9
        self.fails("SizeError", equal, self.put(rows), self.put(rows))

    def test_what_ends_the_comparison(self):
        long = self.memory.make("list", None, [number(1)] * 1000)
        other = self.memory.make("list", None, [number(1)] * 1000)
        for a, b in (([1, Raw(long)], [2, Raw(other)]), ((1, 2, Raw(long)), (1, 3, Raw(other))),
                     ({"a": 1, "b": Raw(long)}, {"b": Raw(other), "a": 2}),
                     ({"a": 1, "b": Raw(long)}, {"b": Raw(other), "c": 1}), ([Raw(long)], [Raw(other), 1]),
                     ({"a": Raw(long)}, {"a": Raw(other), "b": 1})):
            self.same(equal(self.memory, self.put(a), self.put(b)), False)
        for a, b in (([Raw(long), 1], [Raw(other), 2]), ({"b": Raw(long), "a": 1}, {"a": 2, "b": Raw(other)}),
                     ({"b": Raw(long), "a": 1}, {"c": 2, "b": Raw(other)})):
            self.fails("SizeError", equal, self.put(a), self.put(b))
        # The order is that of the first dict: from the other side the missing key is met first.
        self.same(equal(self.memory, self.put({"c": 2, "b": Raw(other)}), self.put({"a": 1, "b": Raw(long)})), False)

    def test_a_missing_key_is_no_pair(self):
        for a, b in (({"a": [1]}, {"b": [1]}), ({"a": {}}, {"b": {}}), ({"a": Raw(self.function())}, {"b": 1})):
            self.check(self.put(a), self.put(b), False)
        # 1 for the dicts, 1 for the lists, 998 for their items: the missing key would be the 1,001st.
        long, other = [self.memory.make("list", None, [number(1)] * 998) for _ in range(2)]
        a, b = self.put({"a": Raw(long), "b": 1}), self.put({"a": Raw(other), "c": 1})
        self.check(a, b, False)
        self.fails("SizeError", equal, a, self.put({"a": Raw(other), "b": 1}))

    def test_pairs_within_a_pair_go_first(self):
        deep = self.nested(994)
        other = self.nested(994)
        # 1 + 1 + 995 + 1: the pair of numbers is the 998th.
        self.check(self.put([Raw(deep), 1]), self.put([Raw(other), 2]), False)
        self.fails("SizeError", equal, self.put([Raw(self.nested(998)), 1]), self.put([Raw(self.nested(998)), 2]))

    def test_cycles(self):
        loops = []
        for _ in range(2):
            loop = self.memory.make("list", None, [NONE])
            self.memory.set_slot(loop, 0, loop)
            loops.append(loop)
        self.check(loops[0], loops[0], True)
        self.fails("SizeError", equal, *loops)
        self.check(self.put([Raw(loops[0]), 1]), self.put([Raw(loops[0]), 1]), True)
        a = self.put({"a": Raw(loops[0])})
        self.memory.set_slot(loops[0], 0, a)
        b = self.put({"a": Raw(loops[1])})
        self.memory.set_slot(loops[1], 0, b)
        self.fails("SizeError", equal, a, b)

    def test_shared_objects_count_each_time(self):
        # 2 ** 9 leaves: 1 + 2 + 4 + ... + 512 = 1023 pairs.
        pairs = []
        for _ in range(2):
            value = self.put([])
            for _ in range(9):
                value = self.memory.make("list", None, [value, value])
            pairs.append(value)
        self.fails("SizeError", equal, *pairs)
        smaller = [self.memory.slot(value, 0) for value in pairs]
        self.check(*smaller, True)

    def test_in_a_heap(self):
        self.memory = Heap()
        a, b = self.put([1, {"a": (2,)}]), self.put([1, {"a": (2,)}])
        self.same(equal(self.memory, a, b), True)
        a, b = self.memory.collect([a, b])
        self.same(equal(self.memory, a, b), True)


class TestOrdered(MemoryCase):

    def check(self, a, b, wanted):
        """Whether a is less than, equal to or greater than b: -1, 0 or 1."""
        a, b = self.put(a), self.put(b)
        for op, found in zip(OPS, (wanted < 0, wanted <= 0, wanted > 0, wanted >= 0)):
            self.same(ordered(self.memory, op, a, b), found)
        for op, found in zip(OPS, (wanted > 0, wanted >= 0, wanted < 0, wanted <= 0)):
            self.same(ordered(self.memory, op, b, a), found)

    def fails_all(self, name, a, b):
        for op in OPS:
            self.fails(name, ordered, op, self.put(a), self.put(b))
            self.fails(name, ordered, op, self.put(b), self.put(a))

    def test_plain(self):
        for a, b, wanted in ((1, 2, -1), (2, 2, 0), (-3, -4, 1), ("a", "b", -1), ("a", "ab", -1), ("", "", 0), ("B", "a", -1),
                             ("a", "_", 1), (10 ** 59, 10 ** 59 + 1, -1)):
            self.check(a, b, wanted)

    def test_sequences(self):
        for a, b, wanted in (([], [], 0), ([1], [], 1), ([1], [2], -1), ([1, 2], [1, 3], -1), ([1, 2], [1], 1),
                             ([[1], "b"], [[1], "a"], 1), ([[1, 2]], [[1, 3]], -1), ([{}, 1], [{}, 2], -1),
                             ([None, 1], [None, 1], 0), ([True, "a"], [True, "b"], -1), ([2], [1, 9], 1)):
            self.check(a, b, wanted)
            self.check(tuple(a), tuple(b), wanted)

    def test_other_pairs(self):
        values = self.others("none")
        for at, a in enumerate(values):
            for to, b in enumerate(values):
                if at != to or kind_word(self.memory, a) not in ("number", "text", "list", "tuple"):
                    self.fails("KindError", ordered, "<", a, b)
        self.fails_all("KindError", None, None)
        self.fails_all("KindError", [1], (1,))
        self.fails_all("KindError", [1], ["a"])
        self.fails_all("KindError", [None], [1])
        self.fails_all("KindError", [True], [False])
        self.fails_all("KindError", [[1], {}], [[1], {"a": 1}])
        # Only the pair that decides is asked for its kinds.
        self.check([1, None], [2, "a"], -1)

    def test_count(self):
        a = self.memory.make("list", None, [number(1)] * 999)
        b = self.memory.make("list", None, [number(1)] * 999)
        self.check(Raw(a), Raw(b), 0)
        self.memory.change(b, None, [number(1)] * 1000)
        # As far as both have items: 1,000 pairs.
        self.check(Raw(a), Raw(b), -1)
        self.memory.change(a, None, [number(1)] * 1000)
        self.fails_all("SizeError", Raw(a), Raw(b))
        # The pair that decides is the 999th, and counted again as the 1,000th; then the 1,000th and the 1,001st.
        for many, fits in ((997, True), (998, True), (999, False)):
            c = self.memory.make("tuple", None, [number(1)] * (many - 1) + [number(2)])
            d = self.memory.make("tuple", None, [number(1)] * (many - 1) + [number(3)])
            if fits:
                self.check(Raw(c), Raw(d), -1)
            else:
                self.fails_all("SizeError", Raw(c), Raw(d))

    def test_one_count_for_all(self):
        def nested(depth, end):
            value = number(end)
            for _ in range(depth):
                value = self.memory.make("list", None, [value])
            return value
        # A nesting of d lists: 1 for the pair, d for the first test, and so on down: (d + 1) + d + ... + 2 + 1.
        for depth, fits in ((43, True), (44, False)):
            self.assertEqual((depth + 1) * (depth + 2) // 2 <= 1000, fits)
            if fits:
                self.check(Raw(nested(depth, 1)), Raw(nested(depth, 2)), -1)
            else:
                self.fails_all("SizeError", Raw(nested(depth, 1)), Raw(nested(depth, 2)))
        self.fails_all("SizeError", Raw(nested(20000, 1)), Raw(nested(20000, 2)))

    def test_the_pair_is_counted_before_its_kinds_are_asked(self):
        rows = [number(1)] * 998
        a = self.memory.make("list", None, rows + [NONE])
        b = self.memory.make("list", None, rows + [TRUE])
        self.fails_all("SizeError", Raw(a), Raw(b))
        a = self.memory.make("list", None, rows[:-1] + [NONE])
        b = self.memory.make("list", None, rows[:-1] + [TRUE])
        self.fails_all("KindError", Raw(a), Raw(b))

    def test_same_object(self):
        a = self.memory.make("list", None, [NONE] * 999)
        self.check(Raw(a), Raw(a), 0)
        loop = self.memory.make("list", None, [NONE])
        self.memory.set_slot(loop, 0, loop)
        self.check(Raw(loop), Raw(loop), 0)
        self.fails("KindError", ordered, "<", self.put({}), self.put({}))


class TestKeys(MemoryCase):

    def test_keys(self):
        for thing in (None, True, False, 0, -5, "", "a", (), (1,), (1, "a", None, True)):
            self.same(is_key(self.memory, self.put(thing)), True)
        for thing in ([], {}, ((),), (1, (2,)), ([],), (1, {}), (Raw(("builtin", "len")),), (Raw(("errorclass", "Error")),)):
            self.same(is_key(self.memory, self.put(thing)), False)
        for value in self.others("none", "truth", "number", "text", "tuple"):
            self.same(is_key(self.memory, value), False)
            self.same(is_key(self.memory, self.put((1, Raw(value)))), False)


if __name__ == "__main__":
    unittest.main()
