"""Point 75 (b) to (f), and what check_code returns."""

import random
import unittest

from likerun.checker import check_code
from likerun.code import Code, Compiled
from likerun.errors import BadCode
from tests.codes import mutated
from tests.machines import LINE, NONE, POP, PUSH_NONE, RETURN, TRUE, MachineCase, compiled_text, main, number, unit
from tests.programs import random_program
from tests.second_checker import second_check
from likerun.compiler import compile_program

V, I, H, C = "value", "iterator", "handled", "cell"
PUSH = number(1)
SIMPLE = unit("simple", LINE, ("load", 0), RETURN, parameters=("p",), slots=("p", "q"))
ITERATE = (PUSH, ("get_iterator",))
CELLS = {"slots": ("a",), "cells": ("a",)}


def pending(*reasons):
    return ("pending", tuple(reasons))


class CheckerCase(MachineCase):

    def shape(self, *rows, **fields):
        """Return what the checker returns for a unit with these rows behind a line, as they stand."""
        return check_code(self.codes(*rows, **fields))[1]

    def codes(self, *rows, **fields):
        return Compiled([main(), unit("f", LINE, *rows, **fields), SIMPLE])

    def no(self, *rows, **fields):
        """The checker refuses a unit with these rows, behind which it returns."""
        with self.subTest(rows=rows):
            self.refused(self.codes(*rows, PUSH_NONE, RETURN, **fields), 1)

    def yes(self, *rows, **fields):
        with self.subTest(rows=rows):
            return self.shape(*rows, PUSH_NONE, RETURN, **fields)


class TestPlaces(CheckerCase):
    """(b) and (c)."""

    def test_the_first_instruction_is_a_line(self):
        for rows in ((PUSH_NONE, RETURN), (("jump", 1), LINE, PUSH_NONE, RETURN)):
            self.refused(Compiled([Code("main", 0, rows)]), 0)

    def test_targets_that_lie_before(self):
        self.yes(("line", 1), ("jump", 0))
        self.yes(("line", 1), ("jump", 1))
        self.yes(("line", 1), PUSH, ("jump_true", 1))
        self.no(PUSH, POP, ("jump", 1))
        self.no(("jump", 1))
        self.no(PUSH, ("jump_true", 2))
        self.no(*ITERATE, ("fetch", 3), POP)
        self.yes(*ITERATE, "next", ("line", 2), ("fetch", "@end"), POP, ("jump", "@next"), "end")
        # -1 is no target, and this is asked where no way leads as well.
        self.yes(RETURN_NONE[0], RETURN, ("end_finally", -1, -1, -1))
        self.yes(RETURN_NONE[0], RETURN, ("end_with", 0, -1, 0))
        self.no(RETURN_NONE[0], RETURN, ("end_with", 0, -1, 1))
        self.no(RETURN_NONE[0], RETURN, ("end_finally", 1, -1, -1))
        self.no(RETURN_NONE[0], RETURN, ("jump", 2))

    def test_yields(self):
        self.yes(PUSH, ("yield",), POP, yields=True)
        self.no(PUSH, ("yield",), POP)
        self.yes(PUSH_NONE, RETURN, ("yield",))

    def test_handlers(self):
        rows = (("load_global", "a"), POP, PUSH_NONE, RETURN, ("drop_handled",))
        self.yes(*rows, handlers=((1, 2, 5, 0),))
        for row in ((-1, 2, 5, 0), (2, 2, 5, 0), (3, 2, 5, 0), (1, 6, 5, 0), (1, 2, 8, 0), (1, 2, 5, -1), (0, 0, 5, 0),
                    (6, 8, 7, 0), (1, 2, -5, 0)):
            self.no(*rows, handlers=(row,))
            # It is asked of all handlers, also of those behind others.
            self.no(*rows, handlers=((1, 2, 5, 0), row))
        self.yes(*rows, handlers=((1, 5, 5, 0),))
        self.yes(*rows, handlers=((1, 2, 5, 0), (1, 2, 7, 9)))
        self.no(*rows, handlers=((1, 2, 7, 9),))


RETURN_NONE = (PUSH_NONE, RETURN)


class TestStacks(CheckerCase):
    """(d): each instruction on stacks that fit, and on others."""

    def row(self, row, wanted, below=(), **fields):
        """With these rows below it, an instruction leaves these kinds."""
        with self.subTest(row=row):
            found = self.shape(*below, row, ("cut", 0), PUSH_NONE, RETURN, **fields)[len(below) + 2]
            self.same(found, (tuple(wanted), None))

    def needs(self, row, kinds, **fields):
        """An instruction wants these kinds on top, and refuses every other one in each place."""
        makers = {V: (PUSH,), I: ITERATE, C: (("push_cell", 0),)}
        fields = dict(CELLS, **fields)
        good = [part for kind in kinds for part in makers[kind]]
        self.yes(*good, row, ("cut", 0), **fields)
        if kinds:
            self.no(*[part for kind in kinds[1:] for part in makers[kind]], row, ("cut", 0), **fields)
        for at in range(len(kinds)):
            for other in makers:
                if other != kinds[at]:
                    mixed = list(kinds[:at]) + [other] + list(kinds[at + 1:])
                    self.no(*[part for kind in mixed for part in makers[kind]], row, ("cut", 0), **fields)

    def test_moves(self):
        self.row(("push", TRUE), (V,))
        self.row(POP, (), below=(PUSH,))
        self.row(POP, (V,), below=(PUSH,) + ITERATE)
        self.row(("copy",), (V, V), below=(PUSH,))
        self.row(("copy_two",), (V,) * 4, below=(PUSH, PUSH))
        self.row(("swap",), (V, V), below=(PUSH, PUSH))
        self.row(("lift",), (V,) * 3, below=(PUSH,) * 3)
        self.row(("line", 3), (V,), below=(PUSH,))
        for row, kinds in ((("copy",), (V,)), (("copy_two",), (V, V)), (("swap",), (V, V)), (("lift",), (V, V, V))):
            self.needs(row, kinds)
        self.no(POP)
        self.yes(("push_cell", 0), POP, *ITERATE, POP, **CELLS)

    def test_jumps(self):
        for word in ("jump_true", "jump_false"):
            shape = self.yes(PUSH, PUSH, (word, 5), ("line", 2), POP)
            self.same((shape[4], shape[5]), (((V,), None), ((V,), None)))
            self.yes(PUSH, (word, "@next"), "next")
            for part in ((), ITERATE, (("push_cell", 0),)):
                self.no(*part, (word, "@next"), "next", ("cut", 0), **CELLS)
        for word in ("keep_true", "keep_false"):
            shape = self.yes(PUSH, (word, 4), PUSH, POP)
            self.same((shape[3], shape[4], shape[5]), (((), None), ((V,), None), ((), None)))
        shape = self.yes(PUSH, ("jump", 4), ("pop",), POP)
        self.same((shape[3], shape[4]), (None, ((V,), None)))

    def test_names(self):
        for word in ("load", "load_cell", "load_global"):
            self.row((word, 0 if word != "load_global" else "x"), (V,), **CELLS)
        for word, operand in (("store", 0), ("store_cell", 0), ("store_global", "x"), ("store_field", None)):
            if word != "store_field":
                self.row((word, operand), (), below=(PUSH,), **CELLS)
                self.needs((word, operand), (V,))
        for row in (("delete", 0), ("delete_cell", 0), ("delete_global", "x")):
            self.row(row, (), **CELLS)
        self.row(("push_cell", 0), (C,), **CELLS)

    def test_makers(self):
        self.row(("make_tuple", 0), (V,))
        self.row(("make_list", 3), (V, V), below=(PUSH,) * 4)
        self.row(("make_dict", 2), (V,), below=(PUSH,) * 4)
        self.row(("make_class", "A", ("x", "y")), (V,), below=(PUSH,) * 3)
        self.row(("unpack", 3), (V, V, V), below=(PUSH,))
        self.row(("unpack", 0), (), below=(PUSH,))
        self.row(("unpack", 200), (V,) * 200, below=(PUSH,))
        for row, kinds in ((("make_tuple", 2), (V, V)), (("make_list", 1), (V,)), (("make_dict", 1), (V, V)),
                           (("make_class", "A", ("x",)), (V, V)), (("make_class", "A", ()), (V,)), (("unpack", 2), (V,))):
            self.needs(row, kinds)

    def test_functions(self):
        inner = unit("g", LINE, PUSH_NONE, RETURN, parameters=("p", "q"), defaults=1, free=("a", "b"))
        outer = {"slots": ("a", "b"), "cells": ("a", "b")}

        def codes(*rows):
            return Compiled([main(), unit("f", LINE, *rows, ("make_function", 2), POP, PUSH_NONE, RETURN, **outer), inner])
        cells = (("push_cell", 0), ("push_cell", 1))
        self.same(check_code(codes(PUSH, *cells))[1][5], ((V,), None))
        for rows in ((PUSH,) + cells[:1], cells, cells + (PUSH,), (PUSH, PUSH, cells[0]), (PUSH, cells[0], PUSH)):
            self.refused(codes(*rows), 1)

    def test_fields_items_and_signs(self):
        for row, kinds, left in (
                (("load_field", "x"), (V,), (V,)), (("store_field", "x"), (V, V), ()), (("delete_field", "x"), (V,), ()),
                (("load_item",), (V, V), (V,)), (("store_item",), (V, V, V), ()), (("delete_item",), (V, V), ()),
                (("load_slice",), (V,) * 4, (V,)), (("unary", "-"), (V,), (V,)), (("binary", "+"), (V, V), (V,)),
                (("compare", "in"), (V, V), (V,)), (("append_item",), (V, V), ()), (("get_iterator",), (V,), (I,)),
                (("enter_with",), (V,), (V, V))):
            self.row(row, (V,) + left, below=(PUSH,) * (len(kinds) + 1))
            self.needs(row, kinds)

    def test_calls_and_ends(self):
        self.row(("call", 0, ()), (V,), below=(PUSH,))
        self.row(("call", 1, ("a", "b")), (V, V), below=(PUSH,) * 5)
        self.needs(("call", 1, ("a",)), (V, V, V))
        self.row(("yield",), (V, V), below=(PUSH, PUSH), yields=True)
        self.needs(("yield",), (V,), yields=True)
        self.refused(self.codes(RETURN), 1)
        self.refused(self.codes(*ITERATE, RETURN), 1)
        self.same(self.shape(PUSH, *ITERATE, PUSH, RETURN)[5], ((V, I, V), None))
        for many in range(3):
            self.same(self.yes(*(PUSH,) * many, ("raise", many), POP)[many + 2], None)
            if many:
                self.no(*(PUSH,) * (many - 1), ("raise", many))
                self.no(*(PUSH,) * (many - 1), *ITERATE, ("raise", many))

    def test_fetch(self):
        shape = self.yes(*ITERATE, ("fetch", 6), POP, POP)
        self.same(shape[4], ((I, V), None))
        self.same(shape[6], ((), None))
        self.no(PUSH, ("fetch", 4), POP)
        self.no(*ITERATE, ("fetch", 5), POP)
        self.no(("push_cell", 0), ("fetch", 4), POP, **CELLS)

    def test_behind_the_end(self):
        for row in (POP, ("line", 2), ("jump_true", 0), ("leave", 0, 0)):
            self.refused(self.codes(PUSH, row), 1)
        self.shape(PUSH, ("jump_true", 0), ("jump", 0))

    def test_ways_that_meet(self):
        self.yes(PUSH, ("jump_true", 5), PUSH, ("jump", 6), PUSH, POP)
        self.no(PUSH, ("jump_true", 4), PUSH, POP)
        self.no(PUSH, ("jump_true", 5), PUSH, ("jump", 7), *ITERATE, POP)
        self.no(("line", 1), PUSH, ("jump", 1))
        self.no(("line", 1), PUSH, ("jump", 0))

    def test_cut(self):
        self.row(("cut", 2), (V, I), below=(PUSH,) + ITERATE + (PUSH, ("push_cell", 0)), **CELLS)
        self.row(("cut", 0), ())
        self.row(("cut", 1), (V,), below=(PUSH,))
        self.no(PUSH, ("cut", 2))

    def test_leave(self):
        for reason in (0, 2, 3):
            self.row(("leave", 1, reason), (I, pending(reason)), below=ITERATE + (PUSH,))
            self.row(("leave", 1, reason), (I, pending(reason)), below=ITERATE)
            self.no(PUSH, ("leave", 2, reason), POP)
        self.row(("leave", 1, 1), (I, pending(1)), below=ITERATE + (PUSH, PUSH))
        self.row(("leave", 0, 1), (pending(1),), below=(PUSH,))
        self.no(PUSH, ("leave", 1, 1), POP, POP)
        self.no(*ITERATE, ("leave", 0, 1), POP)
        self.no(("leave", 0, 1), POP)

    def test_ends_of_blocks(self):
        # The next instruction for 0, the targets for 1 to 3, and nothing for 4.
        rows = (PUSH_NONE, RETURN)
        for reason, where in ((0, 4), (1, 6), (2, 9), (3, 11)):
            leave = (PUSH, ("leave", 0, 1)) if reason == 1 else (("line", 2), ("leave", 0, reason))
            shape = self.shape(*leave, ("end_finally", 6, 9, 11), *rows, POP, *rows, *rows, *rows)
            self.same([at for at in range(4, len(shape)) if shape[at] is not None][0], where)
            self.same(shape[where], ((V,) if reason == 1 else (), None))
        self.no(PUSH, ("leave", 0, 1), ("end_finally", -1, 4, 4))
        self.no(("leave", 0, 2), ("end_finally", 3, -1, 3))
        self.no(("leave", 0, 3), ("end_finally", 3, 3, -1))
        self.yes(("leave", 0, 0), ("end_finally", -1, -1, -1))
        self.no(PUSH, ("end_finally", -1, -1, -1))
        self.no(("end_finally", -1, -1, -1))
        self.no(("leave", 0, 0), PUSH, ("end_finally", -1, -1, -1))

    def with_rows(self, reason, *targets):
        leave = (PUSH, ("leave", 1, 1)) if reason == 1 else (("line", 2), ("leave", 1, reason))
        return (PUSH,) + leave + (PUSH, ("end_with",) + targets)

    def test_ends_of_with(self):
        for reason in (0, 2, 3):
            targets = {2: (-1, 8, -1), 3: (-1, -1, 8)}.get(reason, (-1, -1, -1))
            shape = self.shape(*self.with_rows(reason, *targets), PUSH_NONE, RETURN, PUSH_NONE, RETURN)
            self.same(shape[5], ((V, pending(reason), V), None))
            self.same(shape[6], None if reason else ((), None))
            self.same(shape[8], ((), None) if reason else None)
        shape = self.shape(*self.with_rows(1, 8, -1, -1), PUSH_NONE, RETURN, POP, PUSH_NONE, RETURN)
        self.same((shape[6], shape[8]), (None, ((V,), None)))
        for reason in (1, 2, 3):
            self.no(*self.with_rows(reason, *[-1 if at == reason else 6 for at in (1, 2, 3)]))
        self.no(PUSH, ("leave", 1, 0), ("end_with", -1, -1, -1))
        self.no(("leave", 0, 0), PUSH, ("end_with", -1, -1, -1))
        self.no(*ITERATE, ("leave", 1, 0), PUSH, ("end_with", -1, -1, -1))
        self.no(PUSH, ("leave", 1, 0), *ITERATE, ("end_with", -1, -1, -1))

    def test_errors_that_are_handled(self):
        # h comes by a handler: rows 1 and 2 may raise, row 5 is the target.
        def rows(*behind):
            return (("load_global", "a"), POP, PUSH_NONE, RETURN) + behind
        handlers = ((1, 2, 5, 0),)

        def after(*behind):
            return self.shape(*rows(*behind), ("cut", 0), PUSH_NONE, RETURN, handlers=handlers)[5 + len(behind)]
        self.same(after(("line", 3)), ((H,), None))
        self.same(after(("load_handled",)), ((H, V), None))
        self.same(after(PUSH, ("match",)), ((H, V), None))
        self.same(after(("drop_handled",)), ((), None))
        self.same(after(("hold",)), ((pending(4),), None))
        self.same(after(("hold",), ("end_finally", -1, -1, -1)), None)
        self.same(after(("again",)), None)
        for behind in ((("match",),), (PUSH, ("load_handled",)), (PUSH, ("drop_handled",)), (PUSH, ("hold",)),
                       (PUSH, ("again",)), (PUSH, PUSH, ("match",)), (*ITERATE, ("match",)), (("hold",), ("again",)),
                       (("hold",), ("hold",)), (("copy",),), (RETURN,), (PUSH, ("swap",)), (("hold",), PUSH, ("lift",))):
            with self.subTest(behind=behind):
                self.refused(self.codes(*rows(*behind), ("cut", 0), PUSH_NONE, RETURN, handlers=handlers), 1)
        for word in ("match", "load_handled", "drop_handled", "hold", "again"):
            self.no(PUSH, PUSH, (word,), ("cut", 0))

    def test_with_and_an_error(self):
        # An error in row 2 is held with the object below it; behind the call the block goes on or raises again.
        rows = (PUSH, ("delete_global", "a"), ("leave", 1, 0), ("jump", 6), ("hold",), ("call_leave",),
                ("end_with", -1, -1, -1))
        shape = self.yes(*rows, handlers=((2, 3, 5, 1),))
        self.same(shape[5], ((V, H), None))
        self.same(shape[6], ((V, pending(0, 4)), None))
        self.same(shape[7], ((V, pending(0, 4), V), None))
        self.same(shape[8], ((), None))
        self.no(("leave", 0, 0), ("call_leave",), ("cut", 0))
        self.no(*ITERATE, ("leave", 1, 0), ("call_leave",), ("cut", 0))
        self.no(PUSH, PUSH, ("call_leave",), ("cut", 0))
        # Only an error goes on behind an end_with with a true result; the other end raises it again.
        only = (PUSH, ("delete_global", "a"), ("cut", 0), PUSH_NONE, RETURN, ("hold",))
        handlers = ((2, 3, 6, 1),)
        self.same(self.yes(*only, ("call_leave",), ("end_with", -1, -1, -1), handlers=handlers)[9], ((), None))
        self.same(self.yes(*only, ("end_finally", -1, -1, -1), handlers=handlers)[8], None)

    def test_reasons_that_grow_in_a_loop(self):
        # The first way around brings the reason 0, later ones 2 and 3.
        rows = (("line", 1), ("leave", 0, 0), ("line", 2), PUSH, ("jump_true", 8), ("line", 2), ("jump", 12),
                PUSH, ("jump_true", 11), ("leave", 0, 2), ("jump", 3), ("end_finally", -1, 13, -1))
        shape = self.yes(*rows)
        self.same(shape[3], ((pending(0, 2),), None))
        self.same(shape[12], ((pending(0, 2),), None))
        self.same(shape[2], ((), None))
        rows = rows[:10] + (("leave", 0, 3),) + rows[10:]
        self.no(*[(row[0],) + tuple(13 if part == 12 else part for part in row[1:]) for row in rows])

    def test_all_reasons(self):
        shape = check_code(compiled_text(
            "def f(xs):\n    for x in xs:\n        try:\n            if x == 1:\n                return 1\n"
            "            if x == 2:\n                break\n            if x == 3:\n                continue\n"
            "        finally:\n            pass\n"))[1]
        self.assertIn(((I, pending(0, 1, 2, 3, 4)), None), shape)


class TestErrors(CheckerCase):
    """(e)."""

    QUIET = {
        "line": 0, "push": 0, "pop": 1, "copy": 1, "copy_two": 2, "swap": 2, "lift": 3, "store": 1, "store_cell": 1,
        "store_global": 1, "push_cell": 0, "make_tuple": 2, "make_list": 2, "cut": 2}
    # What the others take of so many values on the stack.
    TAKEN = {
        ("load", 0): (0, 0), ("delete", 0): (0, 0), ("load_cell", 0): (0, 0), ("delete_cell", 0): (0, 0),
        ("load_global", "x"): (0, 0), ("delete_global", "x"): (0, 0), ("make_dict", 1): (2, 2), ("make_dict", 0): (0, 0),
        ("make_class", "A", ("x",)): (2, 2), ("unpack", 2): (1, 1), ("load_field", "x"): (1, 1),
        ("store_field", "x"): (2, 2), ("delete_field", "x"): (1, 1), ("load_item",): (2, 2), ("store_item",): (3, 3),
        ("delete_item",): (2, 2), ("load_slice",): (4, 4), ("unary", "not"): (1, 1), ("binary", "+"): (2, 2),
        ("compare", "is"): (2, 2), ("append_item",): (2, 2), ("call", 1, ("k",)): (3, 3), ("yield",): (1, 1),
        ("get_iterator",): (1, 1), ("raise", 0): (0, 0), ("raise", 1): (1, 1), ("raise", 2): (2, 2),
        ("enter_with",): (1, 0), ("enter_inline", 2, 1): (2, 2)}

    def rows_with(self, below, row, depth):
        """Return rows with a handler over one of them, and that handler."""
        rows = [PUSH] * below + [row, ("cut", 0), PUSH] + [("leave_inline",) + row[1:]] * (row[0] == "enter_inline")
        rows += [RETURN]
        at = below + 1
        return rows + [("cut", 0), PUSH_NONE, RETURN], ((at, at + 1, len(rows) + 1, depth),)

    def test_what_the_others_take(self):
        fields = dict(CELLS, yields=True, extra=2)
        for row, (wanted, taken) in self.TAKEN.items():
            for more in range(3):
                below = wanted + more
                for depth in range(below + 2):
                    rows, handlers = self.rows_with(below, row, depth)
                    codes = self.codes(*rows, handlers=handlers, **fields)
                    with self.subTest(row=row, below=below, depth=depth):
                        if depth <= below - taken:
                            shape = check_code(codes)[1]
                            self.same(shape[handlers[0][2]], ((V,) * depth + (H,), None))
                        else:
                            self.refused(codes, 1)

    def test_quiet_instructions(self):
        operands = {"line": (1,), "push": (NONE,), "store": (0,), "store_cell": (0,), "store_global": ("x",),
                    "push_cell": (0,), "make_tuple": (2,), "make_list": (2,), "cut": (1,)}
        for word, below in self.QUIET.items():
            rows, handlers = self.rows_with(below, (word,) + operands.get(word, ()), 9)
            shape = self.shape(*rows, handlers=handlers, **CELLS)
            self.same(shape[handlers[0][2]], None)
        inner = (PUSH, PUSH, "ask", ("guard", 2, 1, "@slow"), "enter", ("enter_inline", 2, 1), PUSH, "leave",
                 ("leave_inline", 2, 1), ("cut", 0), PUSH_NONE, RETURN, "slow", ("cut", 0), PUSH_NONE, RETURN, "end", LINE,
                 PUSH_NONE, RETURN)
        for at, behind in (("@ask", "@enter"), ("@leave", 7)):
            self.same(self.shape(*inner, extra=2, handlers=((at, behind, "@end", 9),), **CELLS)[13], None)
        self.refused(self.codes(*inner, extra=2, handlers=(("@enter", 5, "@end", 9),), **CELLS), 1)
        for rows, at in (((("jump", 2), PUSH_NONE, RETURN), 1), ((PUSH, ("jump_true", 3), PUSH_NONE, RETURN), 2),
                         ((PUSH, ("jump_false", 3), PUSH_NONE, RETURN), 2), ((PUSH, ("keep_true", 4), PUSH, RETURN), 2),
                         ((PUSH, ("keep_false", 4), PUSH, RETURN), 2), ((PUSH, RETURN), 2),
                         ((("make_function", 0), RETURN), 1), ((("leave", 0, 0), ("cut", 0), PUSH_NONE, RETURN), 1)):
            end = len(rows) + 1
            self.same(self.shape(*rows, PUSH_NONE, RETURN, handlers=((at, at + 1, end, 9),))[end], None)
        # Those with an error on the stack: a handler over the target of another one.
        for rows in ((("load_handled",),), (("drop_handled",),), (("hold",),)):
            rows = (("load_global", "a"), POP, PUSH_NONE, RETURN) + rows + (("cut", 0), PUSH_NONE, RETURN, PUSH_NONE, RETURN)
            self.same(self.shape(*rows, handlers=((1, 2, 5, 0), (5, 6, 9, 9)))[9], None)

    def test_fetch_match_again_and_the_ends(self):
        fetch = ITERATE + (("fetch", 6), POP, POP, PUSH_NONE, RETURN, ("cut", 0), PUSH_NONE, RETURN)
        # The iterator is taken for good.
        self.same(self.shape(*fetch, handlers=((3, 4, 8, 0),))[8], ((H,), None))
        self.refused(self.codes(*fetch, handlers=((3, 4, 8, 1),)), 1)
        first = (("load_global", "a"), POP, PUSH_NONE, RETURN)
        behind = (("cut", 0), PUSH_NONE, RETURN)
        for rows, depth in (((PUSH, ("match",)), 1), ((("again",),), 0), ((("hold",), ("end_finally", -1, -1, -1)), 0),
                            ((PUSH, ("match",), POP, ("again",)), 0)):
            rows = first + rows + behind + behind
            end = len(rows) - 2
            at = end - 4
            self.assertIn(rows[at - 1][0], ("match", "again", "end_finally"))
            good = ((1, 2, 5, 0), (at, at + 1, end, depth))
            self.same(self.shape(*rows, handlers=good)[end], ((H,) * (depth + 1), None))
            self.refused(self.codes(*rows, handlers=((1, 2, 5, 0), (at, at + 1, end, depth + 1))), 1)

    def test_calls_of_with(self):
        rows = (PUSH, PUSH, ("leave", 2, 0), ("call_leave",), ("end_with", -1, -1, -1), PUSH_NONE, RETURN, ("cut", 0),
                PUSH_NONE, RETURN)
        self.same(self.shape(*rows, handlers=((4, 5, 8, 3),))[8], ((V, V, pending(0), H), None))
        self.refused(self.codes(*rows, handlers=((4, 5, 8, 4),)), 1)
        self.same(self.shape(*rows, handlers=((5, 6, 8, 1),))[8], ((V, H), None))
        self.refused(self.codes(*rows, handlers=((5, 6, 8, 2),)), 1)

    def test_the_first_handler_takes_it(self):
        rows = (PUSH, ("load_global", "a"), ("cut", 0), PUSH_NONE, RETURN, ("cut", 0), PUSH_NONE, RETURN, ("cut", 0),
                PUSH_NONE, RETURN)
        one, other = (1, 4, 6, 0), (2, 3, 9, 1)
        shape = self.shape(*rows, handlers=(one, other))
        self.same((shape[6], shape[9]), (((H,), None), None))
        shape = self.shape(*rows, handlers=(other, one))
        self.same((shape[6], shape[9]), (None, ((V, H), None)))
        # A range ends before its end.
        self.same(self.shape(*rows, handlers=((1, 2, 6, 0), (3, 5, 9, 0)))[6:10:3], (None, None))

    def test_instructions_to_which_no_way_leads_have_no_errors(self):
        self.same(self.shape(PUSH_NONE, RETURN, ("load_global", "a"), ("cut", 0), handlers=((3, 4, 4, 7),))[4], None)

    def test_pending_reasons_in_what_a_handler_keeps(self):
        rows = (("leave", 0, 0), ("jump", 4), ("leave", 0, 2), ("load_global", "a"), ("cut", 0), PUSH_NONE, RETURN,
                ("cut", 0), PUSH_NONE, RETURN)
        self.same(self.shape(*rows, handlers=((4, 5, 8, 1),))[8], ((pending(0), H), None))


class TestInlining(CheckerCase):
    """(f)."""

    def inner(self, *rows, first=1, **fields):
        """Return codes with these rows in an inlined function, which has two slots behind one of the code."""
        rows = (PUSH, PUSH, ("enter_inline", 2, first)) + rows + (PUSH, ("leave_inline", 2, first), ("cut", 0), PUSH_NONE,
                                                                  RETURN)
        return self.codes(*rows, **dict({"slots": ("a",), "extra": 4}, **fields))

    def bad(self, *rows, **fields):
        with self.subTest(rows=rows):
            self.refused(self.inner(*rows, **fields), 1)

    def test_states(self):
        shape = check_code(self.inner(("line", 5), PUSH))[1]
        self.same(shape[3], ((V, V), None))
        self.same(shape[4], ((), (2, 1)))
        self.same(shape[7], ((V, V), (2, 1)))
        self.same(shape[8], ((V, V), None))

    def test_slots_on_both_sides(self):
        for word in ("load", "delete"):
            for s in (1, 2):
                check_code(self.inner((word, s)))
            for s in (0, 3, 4):
                self.bad((word, s))
        for s in range(5):
            if s in (1, 2):
                check_code(self.inner(PUSH, ("store", s)))
            else:
                self.bad(PUSH, ("store", s))
        for s in (2, 3):
            check_code(self.inner(("load", s), first=2))
        self.bad(("load", 1), first=2)
        self.bad(("load", 4), first=2)
        # Without an inlined function only the slots of the code itself are used.
        check_code(self.codes(("load", 0), POP, PUSH_NONE, RETURN, slots=("a",), extra=2))
        for row in (("load", 1), ("delete", 2)):
            self.no(row, slots=("a",), extra=2)
        self.no(PUSH, ("store", 1), slots=("a",), extra=2)

    def test_what_does_not_occur(self):
        rows = {"call": (PUSH, ("call", 0, ())), "return": (PUSH, RETURN), "yield": (PUSH, ("yield",)),
                "get_iterator": (PUSH, ("get_iterator",)), "enter_with": (PUSH, ("enter_with",)),
                "guard": (PUSH, PUSH, ("guard", 2, 1, 6)), "enter_inline": (PUSH, PUSH, ("enter_inline", 2, 3)),
                "make_function": (("make_function", 0),), "make_class": (PUSH, ("make_class", "A", ())),
                "raise": (("raise", 0),), "load_cell": (("load_cell", 0),), "store_cell": (PUSH, ("store_cell", 0)),
                "delete_cell": (("delete_cell", 0),), "push_cell": (("push_cell", 0),)}
        for word, part in rows.items():
            self.bad(*part, cells=("a",), yields=True)
        check_code(self.inner(PUSH, ("make_list", 1), ("load_global", "x"), ("binary", "+"), POP, ("line", 2)))
        # An iterator, and an error, that stand below from before.
        self.refused(self.codes(*ITERATE, PUSH, PUSH, ("enter_inline", 2, 0), ("fetch", 7), ("cut", 0), PUSH_NONE, RETURN,
                                extra=4), 1)
        self.refused(self.codes(PUSH, ("leave", 1, 0), PUSH, PUSH, ("enter_inline", 2, 0), ("call_leave",), ("cut", 0),
                                PUSH, ("leave_inline", 2, 0), RETURN, extra=4), 1)
        caught = (("load_global", "a"), POP, PUSH_NONE, RETURN, PUSH, PUSH, ("enter_inline", 2, 0))
        behind = (PUSH, ("leave_inline", 2, 0), ("cut", 0), PUSH_NONE, RETURN)
        handlers = ((1, 2, 5, 0),)
        self.refused(self.codes(*caught, ("again",), *behind, extra=4, handlers=handlers), 1)
        for row in (("load_handled",), ("drop_handled",), ("hold",)):
            check_code(self.codes(*caught, row, *behind, extra=4, handlers=handlers))
        check_code(self.codes(*caught, ("hold",), ("end_finally", -1, -1, -1), *behind, extra=4, handlers=handlers))

    def test_entering_and_leaving(self):
        self.no(PUSH, ("leave_inline", 2, 0), POP, extra=4)
        # Another b, another unit, and one with the same slots.
        rows = (PUSH, PUSH, ("enter_inline", 2, 1), PUSH)
        behind = (("cut", 0), PUSH_NONE, RETURN)
        other = unit("other", LINE, PUSH_NONE, RETURN, parameters=("p",), slots=("p", "q"))

        def codes(row):
            return Compiled([main(), unit("f", LINE, *rows, row, *behind, slots=("a",), extra=4), SIMPLE, other])
        check_code(codes(("leave_inline", 2, 1)))
        for row in (("leave_inline", 2, 2), ("leave_inline", 3, 1), ("leave_inline", 0, 1)):
            self.refused(codes(row), 1)
        self.no(*rows[:3], *behind[:1], slots=("a",), extra=4)
        self.refused(self.codes(*rows[:3], ("leave_inline", 2, 1), *behind, slots=("a",), extra=4), 1)
        self.refused(self.codes(PUSH, ("enter_inline", 2, 1), *rows[3:], ("leave_inline", 2, 1), *behind, slots=("a",),
                                extra=4), 1)

    def test_ways_that_meet_inside_and_outside(self):
        rows = (PUSH, ("jump_true", 7), PUSH, PUSH, ("enter_inline", 2, 1), ("line", 2), ("line", 3), PUSH,
                ("leave_inline", 2, 1), POP)
        self.no(*rows, slots=("a",), extra=4)
        twice = (PUSH, PUSH, PUSH, ("jump_true", 7), ("enter_inline", 2, 1), ("jump", 8), ("enter_inline", 2, 2), PUSH,
                 ("leave_inline", 2, 1), POP)
        self.no(*twice, slots=("a",), extra=4)

    def test_errors_close_it(self):
        codes = self.codes(PUSH, PUSH, ("enter_inline", 2, 0), "start", ("load", 0), "behind", ("leave_inline", 2, 0), RETURN,
                           "caught", ("load_handled",), RETURN, extra=2, handlers=(("@start", "@behind", "@caught", 0),))
        self.same(check_code(codes)[1][7:9], (((H,), None), ((H, V), None)))


class TestResult(CheckerCase):

    def test_word_for_word(self):
        code = Code("main", 0, (LINE, PUSH_NONE, RETURN))
        self.same(check_code(Compiled([code])), ((((), None), ((), None), ((V,), None)),))
        rows = (LINE, PUSH, ("get_iterator",), ("line", 1), ("fetch", 12), POP, PUSH, PUSH, ("jump", 10), ("jump", 11),
                ("cut", 1), ("jump", 3), PUSH_NONE, RETURN, POP)
        found = check_code(Compiled([Code("main", 0, rows)]))
        self.same(found, ((
            ((), None), ((), None), ((V,), None), ((I,), None), ((I,), None), ((I, V), None), ((I,), None),
            ((I, V), None), ((I, V, V), None), None, ((I, V, V), None), ((I,), None), ((), None), ((V,), None), None),))

    def test_each_kind_of_entry(self):
        shape = check_code(compiled_text(
            "def f(m):\n    with m:\n        try:\n            return m(lambda: m)\n        except Error:\n            pass\n"))[1]
        kinds = {kind for entry in shape if entry for kind in entry[0]}
        self.assertEqual(kinds, {V, H, C, pending(0), pending(1), pending(0, 1, 4)})
        self.assertIsInstance(shape, tuple)
        self.assertTrue(all(entry is None or isinstance(entry, tuple) and isinstance(entry[0], tuple) for entry in shape))


class TestAgainstASecondChecker(unittest.TestCase):

    def outcome(self, check, codes):
        try:
            return check(codes)
        except BadCode as error:
            return error.unit

    def test_changed_codes(self):
        counts = {True: 0, False: 0}
        for seed in range(30):
            rng = random.Random(seed)
            codes = compile_program(random_program(rng))
            self.assertEqual(check_code(codes), second_check(codes))
            for _ in range(12):
                other = mutated(rng, codes)
                found = self.outcome(check_code, other)
                with self.subTest(seed=seed):
                    self.assertEqual(found, self.outcome(second_check, other))
                counts[isinstance(found, tuple)] += 1
                if isinstance(found, tuple):
                    codes = other
        self.assertGreater(counts[True], 80)
        self.assertGreater(counts[False], 80)


if __name__ == "__main__":
    unittest.main()
