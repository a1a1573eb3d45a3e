"""Points 46 to 48: the binding of arguments, builtin functions, and the methods of values."""

import unittest

from likerun.errors import Fault
from likerun.natives import bind, call_builtin, call_native
from likerun.scopes import read_program
from tests.memories import BIG, NONE, TRUE, MemoryCase, Raw, number, text


class TestBind(MemoryCase):

    def setUp(self):
        super().setUp()
        self.unit = read_program("def f(a, b, c=1, d=2):\n  pass").units[1]
        self.cell = self.memory.make("cell", None, [NONE])
        self.f = self.function("f", 1, [text("c"), text("d"), self.cell])

    def check(self, given, named, wanted):
        values = [number(at) for at in given]
        pairs = [(name, number(value)) for name, value in named]
        before = list(values), list(pairs)
        self.same(bind(self.memory, self.unit, self.f, values, pairs), [self.put(part) for part in wanted])
        self.same((values, pairs), before)

    def refused(self, given, named):
        self.fails("KindError", bind, self.unit, self.f, [number(at) for at in given],
                   [(name, number(value)) for name, value in named])

    def test_bound(self):
        self.check([1, 2], [], [1, 2, "c", "d"])
        self.check([1, 2, 3], [], [1, 2, 3, "d"])
        self.check([1, 2, 3, 4], [], [1, 2, 3, 4])
        self.check([1], [("b", 2)], [1, 2, "c", "d"])
        self.check([], [("b", 2), ("a", 1)], [1, 2, "c", "d"])
        self.check([], [("d", 4), ("b", 2), ("c", 3), ("a", 1)], [1, 2, 3, 4])
        self.check([1, 2], [("d", 4)], [1, 2, "c", 4])

    def test_refused(self):
        for given, named in (([], []), ([1], []), ([1, 2, 3, 4, 5], []), ([1, 2], [("a", 1)]), ([1, 2, 3], [("c", 1)]),
                             ([1, 2], [("e", 1)]), ([1], [("c", 1)]), ([], [("a", 1)]), ([1, 2], [("c", 1), ("c", 1)]),
                             ([1, 2], [("f", 1)]), ([], [("a", 1), ("c", 1), ("d", 1)])):
            self.refused(given, named)

    def test_other_units(self):
        program = read_program("def f():\n  pass\nlambda a=1: a\n[a for a in b]")
        self.same(bind(self.memory, program.units[1], self.function(), [], []), [])
        self.fails("KindError", bind, program.units[1], self.function(), [NONE], [])
        self.fails("KindError", bind, program.units[1], self.function(), [], [("a", NONE)])
        self.same(bind(self.memory, program.units[2], self.function("lambda", 2, [TRUE]), [], []), [TRUE])
        self.same(bind(self.memory, program.units[3], self.function("comp", 3), [NONE], []), [NONE])

    def test_results_are_new(self):
        given = [NONE, TRUE]
        found = bind(self.memory, self.unit, self.f, given, [])
        found.append(NONE)
        self.same(given, [NONE, TRUE])


class TestBuiltins(MemoryCase):

    def check(self, wanted, name, *given):
        values = [self.put(part) for part in given]
        before = self.snapshot()
        kept = list(values)
        value = call_builtin(self.memory, name, values)
        self.same(self.got(value), wanted)
        self.same(values, kept)
        self.same(self.snapshot()[:len(before)], before)
        return value

    def check_new(self, wanted, name, *given):
        value = self.check(wanted, name, *given)
        self.same(value, ("ref", len(self.memory) - 1))

    def refused(self, error, name, *given, value=NONE):
        self.fails(error, call_builtin, name, [self.put(part) for part in given], value=value)

    def numbers_of_arguments(self, name, good):
        """All numbers of arguments but the good ones are refused."""
        for many in range(6):
            if many not in good:
                self.refused("KindError", name, *[1] * many)
                self.refused("KindError", name, *[[1]] * many)

    def kinds(self, name, *good):
        for value in self.others(*good):
            self.refused("KindError", name, Raw(value))

    def test_len(self):
        for thing in ("", "abc", [], [1, 2], (), (1,), {}, {1: 2, 3: 4}):
            self.check(len(thing), "len", thing)
        self.numbers_of_arguments("len", [1])
        self.kinds("len", "text", "list", "tuple", "dict")

    def test_range(self):
        ends = (0, 1, 3, -1, -4, 7)
        for a in ends:
            self.check_new(list(range(a)), "range", a)
            for b in ends:
                self.check_new(list(range(a, b)), "range", a, b)
                for c in (1, 2, 3, -1, -2, -3, 100, -100):
                    self.check_new(list(range(a, b, c)), "range", a, b, c)
                self.refused("ValueError", "range", a, b, 0)
        self.numbers_of_arguments("range", [1, 2, 3])
        self.kinds("range", "number")
        for value in self.others("number"):
            self.refused("KindError", "range", 1, Raw(value))
            self.refused("KindError", "range", 1, 2, Raw(value))
            self.refused("KindError", "range", Raw(value), 2, 0)

    def test_sizes_of_ranges(self):
        self.check_new(list(range(200)), "range", 200)
        self.refused("SizeError", "range", 201)
        self.check_new(list(range(1, 401, 2)), "range", 1, 401, 2)
        self.refused("SizeError", "range", 1, 402, 2)
        self.check_new(list(range(5, -195, -1)), "range", 5, -195, -1)
        self.refused("SizeError", "range", 5, -196, -1)
        self.refused("SizeError", "range", BIG)
        self.refused("SizeError", "range", -BIG, BIG)
        self.check_new([-BIG, 0], "range", -BIG, BIG, BIG)
        self.check_new([BIG, 1], "range", BIG, -5, -BIG + 1)
        self.check_new([], "range", 5, BIG, -1)
        self.check_new([], "range", -BIG)
        self.refused("ValueError", "range", 0, BIG, 0)

    def test_str_and_repr_and_kind(self):
        for thing, shown in ((1, "1"), (None, "None"), ([1, "a"], '[1, "a"]'), ((True,), "(True,)")):
            self.check(shown, "str", thing)
            self.check(shown, "repr", thing)
        self.check("a\"b", "str", "a\"b")
        self.check('"a\\"b"', "repr", "a\"b")
        self.check("a" * 500, "str", "a" * 500)
        self.refused("SizeError", "repr", "a" * 499)
        self.refused("SizeError", "str", ["a" * 497])
        for kind, value in self.objects().items():
            self.check("class" if kind == "errorclass" else kind, "kind", Raw(value))
        for name in ("str", "repr", "kind"):
            self.numbers_of_arguments(name, [1])

    def test_int(self):
        for thing, wanted in ((5, 5), (-BIG, -BIG), (True, 1), (False, 0), ("0", 0), ("007", 7), ("-12", -12), ("-0", 0),
                              ("9" * 60, BIG), ("-" + "9" * 60, -BIG), ("0" * 60, 0)):
            self.check(wanted, "int", thing)
        for word in ("", "-", "--1", "+1", " 1", "1 ", "1.0", "a", "1a", "-a", "9" * 61, "0" * 61, "-" + "1" * 61, "1-", "1_0",
                     "\n", "- 1"):
            self.refused("ValueError", "int", word)
        self.numbers_of_arguments("int", [1])
        self.kinds("int", "number", "truth", "text")

    def test_abs(self):
        for n in (0, 5, -5, BIG, -BIG):
            self.check(abs(n), "abs", n)
        self.numbers_of_arguments("abs", [1])
        self.kinds("abs", "number")

    def test_min_and_max(self):
        for things, low, high in (([1], 1, 1), ([3, 1, 2], 1, 3), (["b", "a"], "a", "b"), ([[2], [1, 5]], [1, 5], [2]),
                                  ([(1, 2), (1,)], (1,), (1, 2)), ([-1, -2], -2, -1)):
            for make in (list, tuple):
                self.check(low, "min", make(things))
                self.check(high, "max", make(things))
            if len(things) > 1:
                self.check(low, "min", *things)
                self.check(high, "max", *things)
        for name in ("min", "max"):
            self.refused("ValueError", name, [])
            self.refused("ValueError", name, ())
            self.refused("KindError", name)
            self.kinds(name, "list", "tuple")
            self.refused("KindError", name, 1, "a")
            self.refused("KindError", name, [1, "a"])
            self.refused("KindError", name, None, None)
            self.refused("KindError", name, [1, 2, True])
            # One value alone is not compared.
            self.check(None, name, [None])
            self.check({}, name, ({},))

    def test_equal_and_unordered_values(self):
        values = [self.put([1]) for _ in range(3)]
        for name in ("min", "max"):
            self.same(call_builtin(self.memory, name, values), values[0])
            self.same(call_builtin(self.memory, name, [self.memory.make("list", None, values)]), values[0])
            loop = self.memory.make("list", None, [NONE])
            self.memory.set_slot(loop, 0, loop)
            other = self.memory.make("list", None, [loop])
            self.same(call_builtin(self.memory, name, [loop, loop]), loop)
            self.memory.set_slot(other, 0, other)
            self.refused("SizeError", name, Raw(loop), Raw(other))

    def test_each_comparison_has_a_count_of_its_own(self):
        rows = [self.memory.make("list", None, [number(0)] * 600 + [number(at)]) for at in range(4)]
        self.same(call_builtin(self.memory, "max", rows), rows[3])
        self.same(call_builtin(self.memory, "min", rows[::-1]), rows[0])

    def test_list_and_tuple(self):
        for name, make in (("list", list), ("tuple", tuple)):
            self.check_new(make(()), name)
            for thing in ([1, "a"], (1, [2]), "abc", "", {"a": 1, 2: 3}, [], ()):
                self.check_new(make(thing), name, thing)
            value = self.put(make([1]))
            self.assertNotEqual(call_builtin(self.memory, name, [value]), value)
            self.check_new(make("a" * 200), name, "a" * 200)
            self.refused("SizeError", name, "a" * 201)
            self.numbers_of_arguments(name, [0, 1])
            self.kinds(name, "list", "tuple", "text", "dict")

    def test_isinstance(self):
        base = self.cls("A")
        cls = self.cls("B", base)
        error = self.cls("E", ("errorclass", "KeyError"))
        key, find = Raw(("errorclass", "KeyError")), Raw(("errorclass", "FindError"))
        for value, wanted, found in (
                (self.instance(base), Raw(base), True), (self.instance(base), Raw(cls), False), (self.instance(cls), Raw(base), True),
                (self.instance(error), key, True), (self.instance(error), find, True), (self.instance(error), Raw(base), False),
                (self.instance(("errorclass", "KeyError")), find, True), (self.instance(("errorclass", "Error")), find, False),
                (self.instance(cls), (), False), (self.instance(cls), (key, Raw(base)), True), (self.instance(cls), (key, find), False),
                (cls, Raw(base), False), (NONE, Raw(base), False), (("errorclass", "KeyError"), key, False),
                (self.put([]), (Raw(base),), False), (number(1), (), False)):
            self.check(found, "isinstance", Raw(value), wanted)
        for value in self.others("class", "errorclass", "tuple"):
            self.refused("KindError", "isinstance", 1, Raw(value))
            # All items of the tuple are asked, and first.
            self.refused("KindError", "isinstance", Raw(self.instance(base)), (Raw(base), Raw(value)))
        self.refused("KindError", "isinstance", Raw(self.instance(base)), ((Raw(base),),))
        self.numbers_of_arguments("isinstance", [])

    def test_iter_and_next(self):
        for thing in ([1, 2], (1, 2), "ab", {"a": 1, "b": 2}):
            many = len(self.memory)
            value = self.put(thing)
            iterator = call_builtin(self.memory, "iter", [value])
            self.same(call_builtin(self.memory, "iter", [iterator]), iterator)
            self.assertGreaterEqual(len(self.memory), many + 1)
            for item in thing:
                self.same(self.got(call_builtin(self.memory, "next", [iterator])), item)
            with self.assertRaises(Fault) as caught:
                call_builtin(self.memory, "next", [iterator])
            self.same((caught.exception.name, caught.exception.value), ("StopError", NONE))
            self.same(self.memory.tag_of(iterator), (-1, 2))
            self.refused("StopError", "next", Raw(iterator))
            self.check(7, "next", Raw(iterator), 7)
        iterator = call_builtin(self.memory, "iter", [self.put([1])])
        self.check_value(number(1), [iterator, number(5)])
        self.check_value(number(5), [iterator, number(5)])
        self.same(self.memory.tag_of(iterator), (-1, 1))
        self.numbers_of_arguments("iter", [1])
        self.kinds("iter", "list", "tuple", "text", "dict", "iterator", "generator")
        self.numbers_of_arguments("next", [])
        self.kinds("next", "iterator", "generator")
        self.refused("KindError", "next", [1], 2)
        iterator = call_builtin(self.memory, "iter", [self.put([1])])
        self.refused("KindError", "next", Raw(iterator), 1, 2)
        self.refused("KindError", "next")

    def check_value(self, wanted, given):
        self.same(call_builtin(self.memory, "next", given), wanted)

    def test_next_of_a_dict_that_has_changed(self):
        value = self.put({"a": 1})
        iterator = call_builtin(self.memory, "iter", [value])
        self.memory.change(value, None, [])
        self.refused("FlowError", "next", Raw(iterator), 1)


class TestMethods(MemoryCase):

    def check(self, wanted, thing, name, *given, after=None):
        """The method of a new value gives this, and leaves this of the value."""
        value = self.put(thing)
        values = [self.put(part) for part in given]
        kept = list(values)
        found = call_native(self.memory, name, value, values)
        self.same(self.got(found), wanted)
        self.same(self.got(value), thing if after is None else after)
        self.same(values, kept)
        return found

    def refused(self, error, thing, name, *given, value=NONE):
        self.fails(error, call_native, name, self.put(thing), [self.put(part) for part in given], value=value)

    def numbers_of_arguments(self, thing, name, good):
        for many in range(5):
            if many not in good:
                self.refused("KindError", thing, name, *[1] * many)
                self.refused("KindError", thing, name, *["a"] * many)

    def test_append(self):
        self.check(None, [], "append", 1, after=[1])
        self.check(None, [1], "append", [2], after=[1, [2]])
        self.check(None, [1] * 199, "append", 2, after=[1] * 199 + [2])
        self.refused("SizeError", [1] * 200, "append", 2)
        self.numbers_of_arguments([], "append", [1])
        value = self.put([1])
        call_native(self.memory, "append", value, [value])
        self.same(self.memory.slots_of(value), [number(1), value])

    def test_extend(self):
        self.check(None, [1], "extend", [2, 3], after=[1, 2, 3])
        self.check(None, [1], "extend", (2,), after=[1, 2])
        self.check(None, [1], "extend", [], after=[1])
        self.check(None, [1] * 150, "extend", (1,) * 50, after=[1] * 200)
        self.refused("SizeError", [1] * 150, "extend", [1] * 51)
        value = self.put([1, 2])
        call_native(self.memory, "extend", value, [value])
        self.same(self.got(value), [1, 2, 1, 2])
        self.numbers_of_arguments([], "extend", [1])
        self.refused("KindError", [1], "extend", [2], [3])
        for value in self.others("list", "tuple"):
            self.refused("KindError", [1], "extend", Raw(value))

    def test_insert(self):
        for at in (0, 1, 2, 3, 4, 9, -1, -2, -3, -4, -9, BIG, -BIG):
            rows = [1, 2, 3]
            rows.insert(max(-9, min(at, 9)), "x")
            self.check(None, [1, 2, 3], "insert", at, "x", after=rows)
        self.check(None, [], "insert", -1, 5, after=[5])
        self.check(None, [1] * 199, "insert", 0, 5, after=[5] + [1] * 199)
        self.refused("SizeError", [1] * 200, "insert", 0, 5)
        for value in self.others("number"):
            self.refused("KindError", [1] * 200, "insert", Raw(value), 5)
        self.numbers_of_arguments([1], "insert", [2])

    def test_pop(self):
        self.check(3, [1, 2, 3], "pop", after=[1, 2])
        for at in range(-3, 3):
            rows = [1, 2, 3]
            item = rows.pop(at)
            self.check(item, [1, 2, 3], "pop", at, after=rows)
        self.refused("RangeError", [1, 2, 3], "pop", 3)
        self.refused("RangeError", [1, 2, 3], "pop", -4)
        self.refused("RangeError", [], "pop")
        self.refused("RangeError", [], "pop", 0)
        for value in self.others("number"):
            self.refused("KindError", [1], "pop", Raw(value))
        self.numbers_of_arguments([1, 2], "pop", [0, 1])

    def test_index(self):
        self.check(0, [1, 2, 1], "index", 1)
        self.check(1, [1, [2], [2]], "index", [2])
        self.check(2, [True, "1", 1], "index", 1)
        self.refused("ValueError", [1, 2], "index", 3)
        self.refused("ValueError", [], "index", None)
        long = [1] * 1000
        value = self.memory.make("list", None, [number(1)] * 1000)
        self.refused("SizeError", [long], "index", Raw(value))
        self.check(0, [Raw(value), Raw(value)], "index", Raw(value), after=[long, long])
        self.numbers_of_arguments([], "index", [1])

    def test_reverse(self):
        self.check(None, [1, 2, 3], "reverse", after=[3, 2, 1])
        self.check(None, [], "reverse", after=[])
        self.numbers_of_arguments([1, 2], "reverse", [0])

    def test_get(self):
        table = {"a": 1, (1, 2): None, 3: [4]}
        self.check(1, table, "get", "a")
        self.check(None, table, "get", (1, 2), 5)
        self.check([4], table, "get", 3, 5)
        self.check(None, table, "get", "b")
        self.check(5, table, "get", "b", 5)
        self.check(None, table, "get", True)
        self.refused("KindError", table, "get", [])
        self.refused("KindError", table, "get", [], 5)
        self.numbers_of_arguments(table, "get", [1, 2])

    def test_pop_of_dicts(self):
        table = {"a": 1, "b": 2, 3: 4}
        self.check(2, table, "pop", "b", after={"a": 1, 3: 4})
        self.check(1, table, "pop", "a", 9, after={"b": 2, 3: 4})
        self.check(4, table, "pop", 3, after={"a": 1, "b": 2})
        self.check(9, table, "pop", "c", 9)
        self.refused("KeyError", table, "pop", "c", value=text("c"))
        key = self.put((1,))
        self.refused("KeyError", {}, "pop", Raw(key), value=key)
        self.refused("KindError", table, "pop", {})
        self.refused("KindError", table, "pop", {}, 5)
        self.numbers_of_arguments({}, "pop", [1, 2])

    def test_keys_and_values_and_items(self):
        for table in ({}, {"b": 1, "a": [2], (3,): None}):
            for name, wanted in (("keys", list(table)), ("values", list(table.values())), ("items", list(table.items()))):
                value = self.check(wanted, table, name)
                self.same(value, ("ref", len(self.memory) - 1))
                self.numbers_of_arguments(table, name, [0])
        value = self.put({"a": 1, "b": 2})
        many = len(self.memory)
        found = call_native(self.memory, "items", value, [])
        # The tuples are made in order before the list.
        self.same(found, ("ref", many + 2))
        self.same(self.memory.slots_of(found), [("ref", many), ("ref", many + 1)])
        self.same(self.got(("ref", many)), ("a", 1))

    def test_upper_and_lower(self):
        for word in ("", "aB1_z", "AB", "'x\n"):
            self.check(word.upper(), word, "upper")
            self.check(word.lower(), word, "lower")
        for name in ("upper", "lower"):
            self.numbers_of_arguments("a", name, [0])

    def test_split(self):
        for word, sep, wanted in (("a,b", ",", ["a", "b"]), ("", ",", [""]), (",", ",", ["", ""]), ("aaa", "aa", ["", "a"]),
                                  ("abab", "ab", ["", "", ""]), ("a b  c", " ", ["a", "b", "", "c"]), ("abc", "x", ["abc"]),
                                  ("ababa", "aba", ["", "ba"])):
            value = self.check(wanted, word, "split", sep)
            self.same(value, ("ref", len(self.memory) - 1))
        self.check([""] * 200, "," * 199, "split", ",")
        self.refused("SizeError", "," * 200, "split", ",")
        self.refused("ValueError", "abc", "split", "")
        self.refused("ValueError", "," * 200, "split", "")
        for value in self.others("text"):
            self.refused("KindError", "abc", "split", Raw(value))
        self.numbers_of_arguments("abc", "split", [1])

    def test_join(self):
        for sep, parts, wanted in ((",", ["a", "b"], "a,b"), ("", ["a", "b"], "ab"), (",", [], ""), (",", ["a"], "a"),
                                   ("--", ("a", "", "b"), "a----b")):
            self.check(wanted, sep, "join", parts)
        self.check("a" * 500, "", "join", ["a" * 250] * 2)
        self.check("ab" * 166 + "a", "b", "join", ["a"] * 167)
        self.refused("SizeError", "", "join", ["a" * 250, "a" * 251])
        self.refused("SizeError", "a", "join", ["a" * 250] * 2)
        self.refused("SizeError", "a" * 500, "join", ["", "", ""])
        self.check("a" * 500, "a" * 500, "join", ["", ""])
        for value in self.others("text"):
            self.refused("KindError", ",", "join", ["a", Raw(value)])
            self.refused("KindError", "a" * 500, "join", ["a" * 500, Raw(value)])
        for value in self.others("list", "tuple"):
            self.refused("KindError", ",", "join", Raw(value))
        self.numbers_of_arguments(",", "join", [1])
        self.refused("KindError", ",", "join", ["a"], ["b"])

    def test_find(self):
        for word, part, wanted in (("abcabc", "c", 2), ("abc", "", 0), ("", "", 0), ("", "a", -1), ("aab", "ab", 1), ("abc", "d", -1),
                                   ("aaa", "aa", 0)):
            self.check(wanted, word, "find", part)
        for value in self.others("text"):
            self.refused("KindError", "abc", "find", Raw(value))
        self.numbers_of_arguments("abc", "find", [1])


if __name__ == "__main__":
    unittest.main()
