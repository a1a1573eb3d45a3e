"""Points 70 and 74, and point 46 for codes."""

import unittest

from likerun.code import Code, Compiled, read_code, write_code
from likerun.datum import read_datum, write_datum
from likerun.errors import BadCode, BadDatum
from likerun.natives import bind
from likerun.scopes import read_program
from likerun.compiler import compile_program
from tests.machines import LINE, PUSH_NONE, RETURN, number, unit
from tests.memories import MemoryCase

ROWS = (LINE, PUSH_NONE, RETURN)
FIELDS = {
    "name": "f", "line": 3, "instructions": ROWS, "parameters": ("a", "b"), "defaults": 1, "slots": ("a", "b", "c"),
    "cells": ("b",), "free": ("x", "y"), "yields": True, "extra": 2, "handlers": ((0, 1, 2, 0),)}
OTHERS = {
    "name": "g", "line": 4, "instructions": ROWS[:2], "parameters": ("a",), "defaults": 0, "slots": ("a", "b"),
    "cells": ("c",), "free": ("x",), "yields": False, "extra": 3, "handlers": ()}


def code_of(**changes):
    fields = dict(FIELDS, **changes)
    first = [fields.pop(word) for word in ("name", "line", "instructions")]
    return Code(*first, **fields)


class TestFields(unittest.TestCase):

    def same(self, found, wanted):
        self.assertEqual(found, wanted)
        self.assertEqual(repr(found), repr(wanted))

    def test_each_field(self):
        code = code_of()
        for word, value in FIELDS.items():
            self.same(getattr(code, word), value)
        self.same(len(code), 3)

    def test_defaults(self):
        code = Code("main", 0, ROWS)
        for word in ("parameters", "slots", "cells", "free", "handlers"):
            self.same(getattr(code, word), ())
        self.same((code.defaults, code.yields, code.extra), (0, False, 0))

    def test_further_fields_are_passed_by_keyword(self):
        with self.assertRaises(TypeError):
            Code("main", 0, ROWS, ())

    def test_equal_if_all_fields_are(self):
        self.assertTrue(code_of() == code_of())
        self.assertFalse(code_of() != code_of())
        for word, value in OTHERS.items():
            self.assertFalse(code_of() == code_of(**{word: value}), word)
            self.assertTrue(code_of() != code_of(**{word: value}), word)
        self.assertFalse(code_of() == "f")
        self.assertFalse(code_of() == tuple(FIELDS.values()))

    def test_arguments_are_kept_as_they_are(self):
        for word, value in (("instructions", [LINE]), ("parameters", ["a"]), ("slots", None), ("cells", "ab"),
                            ("free", ["x", "x"]), ("handlers", [(3, 2, 1, -1)]), ("defaults", -1), ("extra", "a"),
                            ("yields", 0), ("line", None), ("name", 5), ("instructions", (("what",), 3, None))):
            code = code_of(**{word: value})
            self.same(getattr(code, word), value)
            self.assertTrue(code == code_of(**{word: value}))
        rows = [LINE]
        self.assertIs(code_of(instructions=rows).instructions, rows)
        self.assertFalse(code_of(instructions=rows) == code_of(instructions=tuple(rows)))
        self.same(len(code_of(instructions=[])), 0)

    def test_compiled(self):
        codes = [code_of(), code_of(name="g")]
        one, other = Compiled(codes), Compiled(tuple(codes))
        self.assertIsInstance(one.codes, tuple)
        self.assertIsInstance(other.codes, tuple)
        self.same((len(one), len(Compiled([]))), (2, 0))
        self.assertTrue(one == other)
        self.assertTrue(one == Compiled([code_of(), code_of(name="g")]))
        self.assertFalse(one == Compiled(codes[::-1]))
        self.assertFalse(one == Compiled(codes[:1]))
        self.assertFalse(one == one.codes)
        codes.append(code_of())
        self.same(len(one), 2)


class TestTexts(unittest.TestCase):

    def bad(self, datum, number):
        """A datum is that of codes of which this one is the smallest at fault."""
        with self.subTest(datum=datum):
            with self.assertRaises(BadCode) as caught:
                read_code(write_datum(datum))
            self.assertEqual(repr(caught.exception.unit), repr(number))

    def part(self, **changes):
        """Return the part of a datum for one code; the order of its fields is found out."""
        marks = {word: "<" + word + ">" for word in FIELDS}
        order = read_datum(write_code(Compiled([code_of(**marks)])))[0]
        fields = dict({"name": "f", "line": 1, "instructions": ROWS, "parameters": (), "defaults": 0, "slots": (),
                       "cells": (), "free": (), "yields": False, "extra": 0, "handlers": ()}, **changes)
        return tuple(fields[mark.strip("<>")] for mark in order)

    def test_codes_of_programs(self):
        for source in ("", "x = 1", "def f(a, b=2):\n    yield lambda: [a for b in [-3] if b]\n",
                       "class A(Error):\n    x = \"a\\n\\\"\"\ntry:\n    raise A\nexcept A as e:\n    pass\nfinally:\n    x = ()"):
            codes = compile_program(read_program(source))
            line = write_code(codes)
            self.assertNotIn("\n", line)
            self.assertEqual(write_datum(read_datum(line)), line)
            self.assertTrue(read_code(line) == codes)
            self.assertEqual(write_code(read_code(line)), line)
            self.assertIsInstance(read_code(line).codes[0].instructions[0], tuple)

    def test_broken_codes_are_written(self):
        for changes in ({"line": -1}, {"instructions": ("what",)}, {"slots": None}, {"handlers": ((1,),)}):
            line = write_code(Compiled([code_of(**changes)]))
            self.assertEqual(write_datum(read_datum(line)), line)
            with self.assertRaises(BadCode):
                read_code(line)
        self.assertEqual(read_datum(write_code(Compiled([]))), ())

    def test_fields_that_are_nested_deep(self):
        for depth in (57, 58, 59, 60):
            deep = ()
            for _ in range(depth - 1):
                deep = (deep,)
            for word in FIELDS:
                codes = Compiled([code_of(), code_of(**{word: deep})])
                line = write_code(codes)
                self.assertEqual(write_datum(read_datum(line)), line)
                with self.assertRaises(BadCode):
                    read_code(line)

    def test_no_notes(self):
        for line in ("", "(", "()x", "( )", "((\"main\"  0))", "(01)", "\n", "codes"):
            with self.assertRaises(BadDatum):
                read_code(line)

    def test_other_shapes(self):
        good = self.part(name="main", line=0)
        for datum in ((), None, 5, "a", True, (5,), ("abc",), ((),), (None,), (good[:-1],), (good + (0,),), (good[::-1],)):
            self.bad(datum, 0)
        self.bad((good, 5), 1)
        self.bad((good, good[:-1]), 1)
        self.bad((good, good, ()), 2)
        self.bad((good, (), good, ()), 1)
        self.assertEqual(len(read_code(write_datum((good, self.part())))), 2)

    def test_forms_of_fields(self):
        for changes in ({"name": 1}, {"line": True}, {"defaults": 1}, {"yields": 1}, {"yields": None}, {"extra": 10001},
                        {"instructions": ()}, {"instructions": "ab"}, {"handlers": ((0, 1, 2),)}, {"slots": ("a", "a")},
                        {"handlers": ((0, 1, True, 0),)}, {"handlers": ((0, 1, 10 ** 9 + 1, 0),)}, {"handlers": None}):
            self.bad((self.part(name="main", line=0), self.part(), self.part(**changes)), 2)
        for changes in ({"slots": ("a",)}, {"yields": True}, {"free": ("a",)}):
            self.bad((self.part(**changes), self.part()), 0)

    def test_a_part_without_fields_counts_as_empty(self):
        calls = (LINE, ("guard", 1, 0, 1), PUSH_NONE, RETURN)
        # With empty fields the guarded unit has no parameters, so only the part itself is at fault.
        self.bad((self.part(instructions=calls), ()), 1)
        self.bad((self.part(instructions=calls), self.part(parameters=("a",), slots=("a",))), 0)
        self.bad((self.part(instructions=(LINE, ("guard", 1, 1, 1), RETURN)), 7), 0)
        # The fields of other parts stand as they are, but those that are no tuples count as empty.
        self.bad((self.part(instructions=calls), self.part(parameters=None)), 1)
        self.bad((self.part(instructions=calls), self.part(cells="a")), 1)
        self.bad((self.part(instructions=calls), self.part(yields=1)), 0)
        self.bad((self.part(instructions=calls), self.part(cells=(5,))), 0)

    def test_only_forms_are_asked(self):
        # Rules (b) to (f), and the signs and the order of a handler's numbers, are not.
        for changes in ({"instructions": (POP_ROW,)}, {"instructions": (LINE, ("jump", 0), POP_ROW)},
                        {"instructions": (("jump", 0),)}, {"instructions": (("yield",),)},
                        {"handlers": ((5, 3, -1, -7), (0, 0, 0, 0), (10 ** 9, -10 ** 9, 10 ** 9, -1))},
                        {"handlers": ((0, 1, -10 ** 12, 0),)}):
            part = self.part(**changes)
            codes = read_code(write_datum((part,)))
            self.assertEqual(write_code(codes), write_datum((part,)))

    def test_forms_of_instructions(self):
        for row in (("load", 0), ("what",), ("push", ("number", 10 ** 60)), ("jump", 1), ("jump", -1), (), ("line",), "pop"):
            self.bad((self.part(), self.part(instructions=(row,))), 1)
        self.assertEqual(len(read_code(write_datum((self.part(instructions=(("end_finally", -1, 0, -1),)),)))), 1)


POP_ROW = ("pop",)


class TestBinding(MemoryCase):
    """Point 46 with a code in the place of a unit."""

    def bound(self, code, given, named=(), slots=()):
        function = self.function(slots=slots)
        values = bind(self.memory, code, function, [self.put(value) for value in given],
                      [(name, self.put(value)) for name, value in named])
        return [self.got(value) for value in values]

    def test_given_named_and_default_values(self):
        code = unit("f", LINE, number(0), RETURN, parameters=("a", "b", "c"), defaults=2, slots=("a", "b", "c", "d"))
        slots = [("number", 8), ("number", 9), self.memory.make("cell", None, [("none",)])]
        for given, named, wanted in (
                ([1], [], [1, 8, 9]), ([1, 2], [], [1, 2, 9]), ([1, 2, 3], [], [1, 2, 3]), ([], [("a", 1)], [1, 8, 9]),
                ([1], [("c", 3)], [1, 8, 3]), ([1], [("c", 3), ("b", 2)], [1, 2, 3]), ([], [("c", 3), ("a", 1)], [1, 8, 3])):
            self.assertEqual(self.bound(code, given, named, slots), wanted)
        for given, named in (([], []), ([1, 2, 3, 4], []), ([1], [("a", 1)]), ([], [("b", 1)]), ([1], [("d", 1)]),
                             ([1], [("x", 1)]), ([1], [("b", 1), ("b", 2)]), ([1, 2], [("b", 1)])):
            self.fails("KindError", bind, code, self.function(slots=slots), [self.put(value) for value in given],
                       [(name, self.put(value)) for name, value in named])

    def test_no_parameters(self):
        code = unit("f", LINE, number(0), RETURN, slots=("d",))
        self.assertEqual(self.bound(code, []), [])
        self.fails("KindError", bind, code, self.function(), [("none",)], [])
        self.fails("KindError", bind, code, self.function(), [], [("d", ("none",))])

    def test_as_a_unit(self):
        program = read_program("def f(a, b=1, c=2):\n    pass")
        code = compile_program(program).codes[1]
        for given, named in (([5], []), ([5, 6], [("c", 7)]), ([], [("a", 1), ("c", 0)])):
            function = self.function(slots=[("number", 1), ("number", 2)])
            given = [self.put(value) for value in given]
            named = [(name, self.put(value)) for name, value in named]
            self.assertEqual(bind(self.memory, code, function, given, named),
                             bind(self.memory, program.units[1], function, given, named))


if __name__ == "__main__":
    unittest.main()
