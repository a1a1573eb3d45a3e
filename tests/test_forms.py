"""Point 75 (a): the forms of fields, instructions and operands."""

import unittest

from likerun.checker import check_code
from likerun.code import Code, Compiled
from tests.machines import FALSE, LINE, NONE, POP, PUSH_NONE, RETURN, TRUE, MachineCase, main, number, text, unit

BIG = 10 ** 9
LONG = "a" * 500
# What stands in the place of an integer, of a string, and of a tuple of strings, and is none.
NO_INTEGERS = (True, None, "1", (1,), 1.0)
NO_STRINGS = (None, 5, True, ("a",), LONG + "a", "a" + chr(37), "\t", "caf\u00e9", "\r")
NO_NAMES = (None, "ab", ["a"], ("a", "a"), ("a", 5), (("a",),), (LONG + "a",), 5)


class TestFieldForms(MachineCase):

    def accepted(self, *codes):
        with self.subTest(codes=codes):
            check_code(Compiled(codes))

    def field(self, good, bad, **others):
        """A field of a second code may have these values and not those."""
        for word, values in good.items():
            for value in values:
                self.accepted(main(), self.unit(**dict(others, **{word: value})))
        for word, values in bad.items():
            for value in values:
                with self.subTest(word=word, value=value):
                    self.refused(Compiled([main(), self.unit(**dict(others, **{word: value}))]), 1)

    def unit(self, name="f", line=1, rows=(LINE, PUSH_NONE, RETURN), **fields):
        return Code(name, line, rows, **fields)

    def test_no_codes(self):
        self.refused(Compiled([]), 0)

    def test_names_and_lines(self):
        self.field({"name": ("", "f", "a b\n\"", LONG, "\\~ ", ".x")}, {"name": NO_STRINGS})
        self.field({"line": (0, 1, BIG)}, {"line": NO_INTEGERS + (-1, BIG + 1)})

    def test_extra_and_yields(self):
        self.field({"extra": (0, 1, 10000)}, {"extra": NO_INTEGERS + (-1, 10001)})
        self.field({"yields": (True, False)}, {"yields": (1, 0, None, "yes", ())})

    def test_slots_and_parameters(self):
        self.field({"slots": ((), ("a",), ("a", "", ".out", LONG))}, {"slots": NO_NAMES})
        self.field({"parameters": ((), ("a",), ("a", "b"), ("a", "b", "c"))},
                   {"parameters": NO_NAMES + (("b",), ("b", "a"), ("a", "c"), ("a", "b", "c", "d"), ["a"])},
                   slots=("a", "b", "c"))
        self.refused(Compiled([main(), self.unit(parameters=("a",))]), 1)

    def test_defaults(self):
        for many, parameters in ((0, ()), (2, ("a", "b"))):
            self.field({"defaults": range(many + 1)}, {"defaults": NO_INTEGERS[1:] + (-1, many + 1)},
                       parameters=parameters, slots=parameters + ("c",))
        self.refused(Compiled([main(), self.unit(parameters=("a",), slots=("a",), defaults=True)]), 1)

    def test_cells_and_free_names(self):
        self.field({"cells": ((), ("a",), ("b", "a"), ("c",))}, {"cells": NO_NAMES + (("d",), ("a", "d"))},
                   slots=("a", "b", "c"))
        self.field({"free": ((), ("x",), ("y", "x", "b"))}, {"free": NO_NAMES + (("a",), ("x", "a"))}, slots=("a", "c"))

    def test_instructions(self):
        self.field({}, {"rows": ((), [LINE, PUSH_NONE, RETURN], None, "abc", (LINE, ["push", NONE], RETURN),
                                 (LINE, PUSH_NONE, RETURN, ()), (LINE, PUSH_NONE, RETURN, None),
                                 (LINE, PUSH_NONE, RETURN, "pop"), (LINE, PUSH_NONE, RETURN, (5,)),
                                 (LINE, PUSH_NONE, RETURN, (None,)), (LINE, PUSH_NONE, RETURN, (("pop",),)))})

    def test_handlers(self):
        good = (0, 1, 2, 0)
        self.field({"handlers": ((),)},
                   {"handlers": (None, [good], (list(good),), (good[:3],), (good + (0,),), ((0, 1, 2, True),),
                                 ((0, 1, 2, None),), ((0, 1, 2, BIG + 1),), 5, "abcd", (5,))})

    def test_code_of_the_program(self):
        for fields in ({"parameters": ("a",), "slots": ("a",)}, {"slots": ("a",)}, {"free": ("a",)}, {"yields": True},
                       {"slots": ("a",), "cells": ("a",)}):
            self.refused(Compiled([main(**fields)]), 0)
            self.accepted(main(), self.unit(**fields))
        self.accepted(main(extra=3))
        self.accepted(Code("other", 7, (("line", 5), PUSH_NONE, RETURN)))

    def test_the_smallest_unit_at_fault(self):
        bad = self.unit(line=-1)
        self.refused(Compiled([main(), bad, bad]), 1)
        self.refused(Compiled([main(), main(), bad]), 2)
        # Another rule counts as much as a form.
        self.refused(Compiled([main(POP), bad]), 0)
        self.refused(Compiled([main(), self.unit(rows=(PUSH_NONE, RETURN)), bad]), 1)
        self.refused(Compiled([main(), bad, main(POP)]), 1)


class TestOperandForms(MachineCase):

    def setUp(self):
        # A unit with two parameters, three slots of which one has a cell, two free names and two further slots.
        self.fields = {"parameters": ("a", "b"), "slots": ("a", "b", "c"), "cells": ("c",), "free": ("x", "y"), "extra": 2,
                       "yields": True}
        self.others = [unit("simple", LINE, PUSH_NONE, RETURN, parameters=("p",), slots=("p", "q")),
                       unit("cells", LINE, PUSH_NONE, RETURN, slots=("p",), cells=("p",)),
                       unit("free", LINE, PUSH_NONE, RETURN, free=("p",)),
                       unit("yields", LINE, PUSH_NONE, RETURN, yields=True),
                       unit("none", LINE, PUSH_NONE, RETURN)]

    def codes(self, row):
        # No way leads to the row, so only its form is asked; it stands at the index 3 of 5.
        code = unit("f", LINE, PUSH_NONE, RETURN, row, RETURN, **self.fields)
        return Compiled([main(), code] + self.others)

    def check(self, word, good, bad):
        """An instruction may have these operands and not those."""
        for operands in good:
            with self.subTest(word=word, operands=operands):
                check_code(self.codes((word,) + tuple(operands)))
        for operands in bad:
            with self.subTest(word=word, operands=operands):
                self.refused(self.codes((word,) + tuple(operands)), 1)
        for operands in good[:1]:
            for row in ((word,) + tuple(operands) + (0,), (word,) + tuple(operands) + (None,)):
                self.refused(self.codes(row), 1)
            if operands:
                self.refused(self.codes((word,) + tuple(operands)[:-1]), 1)
                self.refused(self.codes((word, tuple(operands))), 1)

    def integers(self, word, good, bad, behind=()):
        """The first operand may be one of these integers and not one of those."""
        self.check(word, [(n,) + behind for n in good], [(n,) + behind for n in tuple(bad) + NO_INTEGERS])

    def test_words_without_operands(self):
        for word in ("pop copy copy_two swap lift load_item store_item delete_item load_slice append_item return yield"
                     " get_iterator match load_handled drop_handled again hold enter_with call_leave").split():
            self.check(word, [()], [(0,), ("a",), ((),)])

    def test_no_words(self):
        for row in (("what",), ("Pop",), ("",), ("lines", 0), ("jump_none", 0), ("nop",)):
            self.refused(self.codes(row), 1)

    def test_line_cut_leave(self):
        self.integers("line", (0, 5, BIG), (-1, BIG + 1))
        self.integers("cut", (0, 5, BIG), (-1, BIG + 1))
        self.integers("leave", (0, 5, BIG), (-1, BIG + 1), behind=(0,))
        self.check("leave", [(0, 0), (0, 1), (0, 2), (0, 3)], [(0, -1), (0, 4)] + [(0, n) for n in NO_INTEGERS])

    def test_push(self):
        big = 10 ** 60 - 1
        values = [NONE, TRUE, FALSE, ("number", 0), ("number", big), ("number", -big), ("text", ""), ("text", LONG),
                  ("text", "a\n\\\""), ("builtin", "take"), ("builtin", "kind"), ("errorclass", "Error"),
                  ("errorclass", "KeyError")]
        others = [None, 5, "none", (), ("none", 1), ("truth", 1), ("truth",), ("truth", True, 1), ("number", True),
                  ("number", big + 1), ("number", -big - 1), ("number", "1"), ("text", LONG + "a"), ("text", "\t"),
                  ("text", chr(37)), ("text", 5), ("builtin", "foo"), ("builtin", "Error"), ("builtin", 5),
                  ("errorclass", "len"), ("errorclass", "E"), ("ref", 0), ("unset",), ("handled", 0), ("what", 1),
                  ("pending", 0, NONE), ["none"], ("none",) * 2, (None,), ("builtin", ("len",))]
        self.check("push", [(value,) for value in values], [(value,) for value in others])

    def test_targets(self):
        for word in ("jump", "jump_true", "jump_false", "keep_true", "keep_false", "fetch"):
            self.integers(word, (0, 4), (-1, 5))
        for word in ("end_finally", "end_with"):
            self.check(word, [(0, 4, -1), (-1, -1, -1), (4, -1, 4)],
                       [row for n in (-2, 5) + NO_INTEGERS for row in ((n, 0, 0), (0, n, 0), (0, 0, n))] + [(0, 0)])

    def test_slots_and_cells(self):
        for word in ("load", "store", "delete"):
            self.integers(word, (0, 2, 3, 4), (-1, 5))
        for word in ("load_cell", "store_cell", "delete_cell", "push_cell"):
            self.integers(word, (0, 1, 2), (-1, 3))
        self.fields = {}
        for word in ("load", "load_cell"):
            self.check(word, [], [(0,), (-1,)])

    def test_names(self):
        for word in ("load_global", "store_global", "delete_global", "load_field", "store_field", "delete_field"):
            self.check(word, [("",), ("a",), (LONG,), (".a\n",)], [(name,) for name in NO_STRINGS])
        self.check("make_class", [("A", ()), ("", ("a", "b", "")), (LONG, (LONG,))],
                   [(name, ()) for name in NO_STRINGS] + [("A", names) for names in NO_NAMES])
        self.check("call", [(0, ()), (0, ("a", "b"))], [(0, names) for names in NO_NAMES])

    def test_numbers_of_items(self):
        for word in ("make_tuple", "make_list", "unpack"):
            self.integers(word, (0, 1, 200), (-1, 201))
        self.integers("make_dict", (0, 1, 100), (-1, 101))
        self.integers("call", (0, 1, 200), (-1, 201), behind=((),))
        self.integers("raise", (0, 1, 2), (-1, 3))

    def test_signs(self):
        signs = ("+", "-", "*", "//", "mod", "not", "==", "!=", "<", "<=", ">", ">=", "in", "not in", "is", "is not", "and",
                 "/", "", None, 0, ("+",))
        for word, good in (("unary", ("-", "not")), ("binary", signs[:5]), ("compare", signs[6:16])):
            self.check(word, [(op,) for op in good], [(op,) for op in signs if op not in good])

    def test_units(self):
        self.integers("make_function", (0, 1, 2, 3, 4, 5, 6), (-1, 7))

    def test_inlined_units(self):
        # The code has 3 slots and 2 further ones; unit 2 has 2 slots, units 3 to 5 may not be inlined, unit 6 has none.
        for word in ("enter_inline", "leave_inline"):
            self.check(word, [(2, 3), (6, 3), (6, 5), (0, 4)],
                       [(2, 2), (2, 4), (6, 2), (6, 6), (3, 3), (4, 3), (5, 3), (1, 3), (7, 3), (-1, 3), (2, BIG + 1)]
                       + [(2, n) for n in NO_INTEGERS] + [(n, 3) for n in NO_INTEGERS])
        self.check("guard", [(2, 1, 4), (6, 0, 0), (0, 0, 0)],
                   [(2, 0, 4), (2, 2, 4), (2, True, 4), (6, 1, 0), (3, 0, 0), (4, 0, 0), (5, 0, 0), (1, 2, 0), (7, 0, 0),
                    (-1, 0, 0), (2, 1, 5), (2, 1, -1)] + [(2, 1, n) for n in NO_INTEGERS] + [(n, 1, 0) for n in NO_INTEGERS])

    def test_fields_of_named_units_as_they_stand(self):
        def codes(row, other):
            return Compiled([main(), unit("f", LINE, PUSH_NONE, RETURN, row, RETURN, extra=3), other])
        broken = unit("g", LINE, PUSH_NONE, RETURN)
        for fields, wanted in (({"parameters": None}, 2), ({"parameters": ["a", "b"]}, 2), ({"parameters": ("a",)}, 1),
                               ({"cells": "abc"}, 2), ({"cells": ("a",)}, 1), ({"free": 7}, 2), ({"free": (7,)}, 1),
                               ({"yields": 0}, 2), ({"yields": "x"}, 1), ({"yields": ()}, 2), ({"yields": 1}, 1)):
            other = Code("g", 1, broken.instructions, **fields)
            with self.subTest(fields=fields):
                self.refused(codes(("guard", 2, 0, 4), other), wanted)
        for slots, wanted in ((["a", "b", "c", "d"], 2), (("a", "a", "a"), 2), (("a", "a", "a", "a"), 1), (None, 2)):
            self.refused(codes(("enter_inline", 2, 0), Code("g", 1, broken.instructions, slots=slots)), wanted)

    def test_defaults_and_free_names_of_a_function(self):
        # The cells and defaults that a function takes are those of its unit as it stands.
        def codes(rows, **fields):
            return Compiled([main(*rows), Code("g", 1, (LINE, PUSH_NONE, RETURN), **fields)])
        function = (("make_function", 1), POP)
        check_code(codes(function))
        check_code(codes((number(1),) + function, parameters=("a",), slots=("a",), defaults=1))
        self.refused(codes(function, parameters=("a",), slots=("a",), defaults=1), 0)
        self.refused(codes((number(1),) + function, free=("x",)), 0)
        for fields, rows, wanted in (({"defaults": -1}, (), 1), ({"defaults": None}, (), 1), ({"defaults": True}, (), 1),
                                     ({"defaults": 1}, (number(1),), 1), ({"defaults": 1}, (), 0), ({"free": "x"}, (), 1),
                                     ({"defaults": 10 ** 12}, (number(1),), 0), ({"free": ["x"]}, (), 1)):
            with self.subTest(fields=fields):
                self.refused(codes(rows + function, **fields), wanted)

    def test_operands_are_asked_where_no_way_leads(self):
        self.refused(Compiled([main(RETURN, ("jump", 9))]), 0)
        self.refused(Compiled([main(text("a"), RETURN, ("push", 5))]), 0)


if __name__ == "__main__":
    unittest.main()
