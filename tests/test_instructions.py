"""Points 71 and 72: each instruction with its effect and its errors, in orders that no compiler writes."""

import unittest

from likerun.errors import MachineFault
from tests.machines import (
    LINE, NONE, POP, PUSH_NONE, RETURN, TRUE, FALSE, MachineCase, compiled, machine, number, text, unit, words_of)


def keep(name):
    return ("store_global", name)


def get(name):
    return ("load_global", name)


CALL = ("call", 0, ())
A, B, ONE, TWO, THREE = text("a"), text("b"), number(1), number(2), number(3)
ERROR = (get("Error"), CALL)


class TestMoves(MachineCase):

    def test_push(self):
        for value, word in ((NONE, "None"), (TRUE, "True"), (("number", -3), "-3"), (("text", "a\n"), '"a\\n"'),
                            (("builtin", "len"), "<builtin len>"), (("errorclass", "KeyError"), "<class KeyError>")):
            self.gives([("push", value), keep("x")], {"x": word})

    def test_orders_on_the_stack(self):
        self.gives([ONE, TWO, POP, keep("x")], {"x": "1"})
        self.gives([ONE, ("copy",), keep("x"), keep("y")], {"x": "1", "y": "1"})
        self.gives([ONE, TWO, ("copy_two",), keep("w"), keep("x"), keep("y"), keep("z")],
                   {"w": "2", "x": "1", "y": "2", "z": "1"})
        self.gives([ONE, TWO, ("swap",), keep("x"), keep("y")], {"x": "1", "y": "2"})
        self.gives([ONE, TWO, THREE, ("lift",), keep("x"), keep("y"), keep("z")], {"x": "2", "y": "1", "z": "3"})
        self.gives([ONE, TWO, THREE, ("cut", 1), keep("x")], {"x": "1"})
        self.gives([ONE, ("cut", 1), keep("x")], {"x": "1"})
        # A value is the same object in both places.
        self.gives([("make_list", 0), ("copy",), ("copy",), ONE, ("append_item",), ("compare", "is"), keep("x")],
                   {"x": "True"})

    def test_pop_takes_any_kind(self):
        self.gives([A, ("get_iterator",), POP, ("leave", 0, 0), POP, ONE, keep("x")], {"x": "1"})

    def test_jumps(self):
        for value, truth in ((TRUE, True), (FALSE, False), (NONE, False), (("text", "a"), True), (("number", 0), False)):
            for word, going in (("jump_true", truth), ("jump_false", not truth)):
                rows = [("push", value), (word, "@there"), ONE, keep("x"), ("jump", "@end"), "there", TWO, keep("x"), "end"]
                self.gives(rows, {"x": "2" if going else "1"})
            for word, going in (("keep_true", truth), ("keep_false", not truth)):
                rows = [THREE, ("push", value), (word, "@there"), ONE, "there", keep("x"), keep("y")]
                shown = self.gives([("push", value), keep("x")], words_of(self.finished(("push", value), keep("x"))))
                word_of_value = words_of(shown)["x"]
                self.gives(rows, {"x": word_of_value if going else "1", "y": "3"})

    def test_jumps_backwards(self):
        run = self.gives([THREE, keep("n"), "again", ("line", 7), get("n"), ONE, ("binary", "-"), keep("n"), get("n"),
                          ("jump_true", "@again")], {"n": "0"})
        self.same(run.lines, [("main", 0), ("main", 7), ("main", 7), ("main", 7)])
        run = self.finished("again", ("line", 7), ("jump", "@again"), options={"fuel": 9})
        self.same((run.end, run.steps), (("steps",), 9))

    def test_lines(self):
        run = machine(("line", 4), ("line", 4), ("line", 10 ** 9))
        seen = []
        while run.advance():
            seen.append(run.trace)
        self.same(seen, [(("main", 0),), (("main", 4),), (("main", 4),), (("main", 10 ** 9),)])


class TestNames(MachineCase):

    def called(self, *rows, **fields):
        """Return rows that call a unit with these rows, and the unit."""
        names = fields.setdefault("slots", ("a", "b"))
        fields["parameters"] = names[:1] if "parameters" not in fields else fields["parameters"]
        code = unit("f", LINE, *rows, PUSH_NONE, RETURN, **fields)
        return [("make_function", 1)] + [ONE] * len(code.parameters) + [("call", len(code.parameters), ()), POP], [code]

    def both(self, rows, wanted, **fields):
        calls, units = self.called(*rows, **fields)
        self.gives(calls, wanted, units=units)

    def bad(self, rows, name, message, **fields):
        calls, units = self.called(*rows, **fields)
        run = self.leaves(calls, name, message, units=units)
        self.same(run.end[1][0][2], (("main", 0), ("f", 0)))

    def test_slots(self):
        self.both([("load", 0), keep("x")], {"x": "1"})
        self.both([A, ("store", 1), ("load", 1), keep("x"), ("delete", 0)], {"x": '"a"'})
        self.bad([("load", 1)], "NameError", '"b"')
        self.bad([("delete", 1)], "NameError", '"b"')
        self.bad([("delete", 0), ("load", 0)], "NameError", '"a"')
        self.bad([("delete", 0), ("delete", 0)], "NameError", '"a"')
        self.both([A, ("store", 1), B, ("store", 1), ("delete", 1), A, ("store", 1), ("load", 1), keep("x")], {"x": '"a"'})

    def test_cells(self):
        cells = {"cells": ("b", "a")}
        self.both([("load_cell", 1), keep("x")], {"x": "1"}, **cells)
        self.both([A, ("store_cell", 0), ("load_cell", 0), keep("x"), ("delete_cell", 1)], {"x": '"a"'}, **cells)
        self.bad([("load_cell", 0)], "NameError", '"b"', **cells)
        self.bad([("delete_cell", 0)], "NameError", '"b"', **cells)
        self.bad([("delete_cell", 1), ("load_cell", 1)], "NameError", '"a"', **cells)

    def test_a_slot_with_a_cell_is_a_place_of_its_own(self):
        cells = {"cells": ("a",)}
        self.bad([("load", 0)], "NameError", '"a"', **cells)
        self.both([A, ("store", 0), ("load", 0), keep("x"), ("load_cell", 0), keep("y")], {"x": '"a"', "y": "1"}, **cells)
        # It is no name of the frame, and holds its value over a yield.
        calls, units = self.called(("line", 3), A, ("store", 0), ("line", 4), **cells)
        run = machine(*calls, units=units)
        for _ in range(4):
            run.advance()
        self.same(run.names(1), [("a", "#1")])
        self.same(run.room_used(), 3)
        rows = [A, ("store", 0), B, ("yield",), POP, ("load", 0), keep("x"), ("load_cell", 0), keep("y")]
        calls, units = self.called(*rows, yields=True, **cells)
        calls = calls[:-1] + [keep("g")]
        for _ in range(2):
            calls += [get("next"), get("g"), ONE, ("call", 2, ()), POP]
        self.gives(calls, {"g": "#1", "x": '"a"', "y": "1"}, units=units)

    def test_free_names(self):
        inner = unit("g", LINE, ("load_cell", 0), keep("x"), B, ("store_cell", 1), ("load_cell", 1), keep("y"),
                     ("delete_cell", 0), ("load_cell", 0), RETURN, slots=("c",), cells=(), free=("q", "p"))
        outer = unit("f", LINE, A, ("store_cell", 0), ("push_cell", 0), ("push_cell", 1), ("make_function", 2), CALL, RETURN,
                     slots=("p", "q"), cells=("p", "q"))
        run = self.finished(("make_function", 1), CALL, POP, units=[outer, inner])
        self.same(run.end[1][0], ("NameError", '"q"', (("main", 0), ("f", 0), ("g", 0))))
        self.same(words_of(run), {"x": '"a"', "y": '"b"'})

    def test_globals(self):
        self.gives([ONE, keep("x"), get("x"), keep("y"), ("delete_global", "x")], {"y": "1"})
        self.gives([get("len"), keep("x"), get("KeyError"), keep("y")], {"x": "<builtin len>", "y": "<class KeyError>"})
        self.gives([ONE, keep("len"), get("len"), keep("x"), ("delete_global", "len"), get("len"), keep("y")],
                   {"x": "1", "y": "<builtin len>"})
        self.leaves([get("x")], "NameError", '"x"')
        self.leaves([("delete_global", "len")], "NameError", '"len"')
        self.leaves([ONE, keep("x"), ("delete_global", "x"), get("x")], "NameError", '"x"')
        self.leaves([get("")], "NameError", '""')


class TestMakers(MachineCase):

    def shows(self, rows, shown, units=()):
        """What is left on the stack shows so."""
        run = self.finished(*rows, keep("~"), get("repr"), get("~"), ("call", 1, ()), keep("~"), units=units)
        self.same(words_of(run).get("~"), '"' + shown.replace('"', '\\"') + '"')

    def test_tuples_lists_and_dicts(self):
        self.shows([ONE, TWO, ("make_tuple", 2)], "(1, 2)")
        self.shows([ONE, TWO, ("make_list", 2), ("make_list", 1)], "[[1, 2]]")
        self.shows([("make_tuple", 0)], "()")
        self.shows([ONE] * 200 + [("make_list", 200), number(197), PUSH_NONE, PUSH_NONE, ("load_slice",)], "[1, 1, 1]")
        self.shows([A, ONE, B, TWO, A, THREE, ("make_dict", 3)], '{"a": 3, "b": 2}')
        self.shows([("make_dict", 0)], "{}")
        self.leaves([ONE, ONE, ("make_list", 0), TWO, ("make_dict", 2)], "KindError")

    def test_functions(self):
        code = unit("f", LINE, ("load", 0), ("load", 1), ("load_cell", 0), ("make_tuple", 3), RETURN, parameters=("a", "b"),
                    defaults=2, free=("c",))
        outer = unit("g", LINE, A, ("store_cell", 0), ONE, TWO, ("push_cell", 0), ("make_function", 1), RETURN,
                     slots=("c",), cells=("c",))
        call = [("make_function", 2), CALL]
        self.shows(call, "<function f>", units=[code, outer])
        self.shows(call + [CALL], '(1, 2, "a")', units=[code, outer])
        self.shows(call + [THREE, ("call", 0, ("b",))], '(1, 3, "a")', units=[code, outer])
        self.shows(call + [A, B, ("call", 1, ("b",))], '("a", "b", "a")', units=[code, outer])

    def test_classes(self):
        self.shows([PUSH_NONE, ONE, TWO, ("make_class", "A", ("x", "y")), ("load_field", "y")], "2")
        run = self.finished(PUSH_NONE, ONE, TWO, ("make_class", "A", ("x", "y")), keep("A"), get("A"), THREE,
                            ("make_class", "B", ("y",)), keep("B"))
        self.same(run.picture(), "globals\n  A = #1\n  B = #2\nobjects\n  #1 class A (x y) None 1 2\n  #2 class B (y) #1 3")
        self.shows([get("Error"), ("make_class", "E", ()), CALL], "E()")
        self.leaves([ONE, ("make_class", "A", ())], "KindError")
        self.leaves([("make_list", 0), ONE, ("make_class", "A", ("x",))], "KindError")

    def test_unpack(self):
        self.gives([ONE, TWO, ("make_tuple", 2), ("unpack", 2), keep("x"), keep("y")], {"x": "1", "y": "2"})
        self.gives([("make_list", 0), ("unpack", 0)], {})
        for rows, name in (([ONE, ("unpack", 1)], "KindError"), ([text("ab"), ("unpack", 2)], "KindError"),
                           ([("make_dict", 0), ("unpack", 0)], "KindError"),
                           ([ONE, ("make_list", 1), ("unpack", 2)], "ValueError"),
                           ([ONE, ("make_list", 1), ("unpack", 0)], "ValueError")):
            self.leaves(rows + [("cut", 0)], name)

    def test_fields(self):
        new = [PUSH_NONE, ("make_class", "A", ()), CALL, keep("a")]
        self.shows(new + [ONE, get("a"), ("store_field", "x"), get("a"), ("load_field", "x")], "1")
        self.leaves(new + [get("a"), ("load_field", "x")], "FieldError", '"x"')
        self.leaves(new + [get("a"), ("delete_field", "x")], "FieldError", '"x"')
        self.leaves([ONE, ONE, ("store_field", "x")], "KindError")
        self.gives(new + [ONE, get("a"), ("store_field", "x"), get("a"), ("delete_field", "x")], {"a": "#1"})

    def test_items(self):
        pair = [ONE, TWO, ("make_list", 2), keep("a")]
        self.shows(pair + [get("a"), number(-1), ("load_item",)], "2")
        self.shows(pair + [A, get("a"), number(0), ("store_item",), get("a")], '["a", 2]')
        self.shows(pair + [get("a"), number(0), ("delete_item",), get("a")], "[2]")
        self.leaves(pair + [get("a"), TWO, ("load_item",)], "RangeError")
        self.leaves(pair + [ONE, get("a"), A, ("store_item",)], "KindError")
        self.leaves([("make_dict", 0), A, ("delete_item",)], "KeyError", '"a"')
        self.shows([text("abcd"), number(0), number(3), TWO, ("load_slice",)], '"ac"')
        self.shows([text("abcd"), PUSH_NONE, PUSH_NONE, number(-1), ("load_slice",)], '"dcba"')
        self.leaves([text("abcd"), PUSH_NONE, PUSH_NONE, number(0), ("load_slice",)], "ValueError")

    def test_signs(self):
        self.shows([ONE, ("unary", "-")], "-1")
        self.shows([ONE, ("unary", "not")], "False")
        self.shows([number(7), TWO, ("binary", "mod")], "1")
        self.shows([TWO, number(7), ("binary", "-")], "-5")
        self.shows([ONE, TWO, ("compare", "<")], "True")
        self.shows([ONE, ONE, ("make_list", 1), ("compare", "not in")], "False")
        self.leaves([A, ("unary", "-")], "KindError")
        self.leaves([ONE, number(0), ("binary", "//")], "ZeroError")
        self.leaves([ONE, A, ("compare", "<")], "KindError")
        self.leaves([number(10 ** 59), number(10), ("binary", "*")], "SizeError")

    def test_append_item(self):
        self.shows([("make_list", 0), ("copy",), keep("a"), ONE, ("append_item",), get("a")], "[1]")
        self.leaves([("make_tuple", 0), ONE, ("append_item",)], "KindError")
        self.leaves([ONE] * 200 + [("make_list", 200), ONE, ("append_item",)], "SizeError")


class TestCalls(MachineCase):

    def setUp(self):
        self.codes = [
            unit("f", LINE, ("load", 0), ("load", 1), ("make_tuple", 2), RETURN, parameters=("a", "b"), defaults=1),
            unit("g", ("line", 2), ("load", 0), ("yield",), ("yield",), RETURN, parameters=("a",), yields=True)]
        self.make = [number(9), ("make_function", 1), keep("f"), ("make_function", 2), keep("g")]

    def tops(self, rows, wanted):
        run = self.finished(*self.make, *rows, units=self.codes)
        self.same(run.end, ("done",))
        found = words_of(run)
        self.same({name: found[name] for name in wanted}, wanted)
        return run

    def bad(self, rows, name, message=""):
        return self.leaves(self.make + rows, name, message, units=self.codes)

    def test_call(self):
        text_of = [get("str")]
        for rows, shown in (([ONE, ("call", 1, ())], "(1, 9)"), ([ONE, TWO, ("call", 2, ())], "(1, 2)"),
                            ([ONE, TWO, ("call", 0, ("b", "a"))], "(2, 1)"), ([ONE, TWO, ("call", 1, ("b",))], "(1, 2)")):
            self.tops(text_of + [get("f")] + rows + [("call", 1, ()), keep("x")], {"x": '"' + shown + '"'})
        self.bad([get("f"), CALL], "KindError")
        self.bad([get("f"), ONE, ("call", 0, ("c",))], "KindError")
        self.bad([ONE, CALL], "KindError")
        self.bad([get("len"), A, ("call", 0, ("x",))], "KindError")

    def test_return_and_what_is_left(self):
        # What stands below the value of a return is dropped with the frame.
        self.codes.append(unit("h", LINE, ONE, B, ("get_iterator",), A, RETURN))
        self.tops([("make_function", 3), CALL, keep("x")], {"x": '"a"'})

    def test_generators(self):
        run = self.tops([get("g"), ONE, ("call", 1, ()), keep("i"), get("next"), get("i"), ("call", 1, ()), keep("x"),
                         get("i"), ("load_field", "send"), A, ("call", 1, ()), keep("y"),
                         get("next"), get("i"), B, ("call", 2, ()), keep("z")],
                        {"x": "1", "y": '"a"', "z": '"b"'})
        self.same(run.lines, [("main", 0), ("g", 2)])
        self.bad([get("next"), get("g"), ONE, ("call", 1, ()), ("copy",), keep("i"), ("load_field", "close"), CALL, POP,
                  get("i"), ("call", 1, ())], "StopError")

    def test_fetch(self):
        rows = [get("g"), ONE, ("call", 1, ()), ("get_iterator",), ("fetch", "@no"), keep("x"), ("fetch", "@no"), keep("y"),
                ("fetch", "@no"), keep("z"), POP, "no"]
        self.tops(rows, {"x": "1", "y": "None"})
        self.tops([text("ab"), ("get_iterator",), ("fetch", "@no"), keep("x"), ("fetch", "@no"), keep("y"), ("fetch", "@no"),
                   keep("z"), POP, "no"], {"x": '"a"', "y": '"b"'})
        self.bad([ONE, ("get_iterator",), POP], "KindError")
        self.bad([ONE, ONE, ("make_dict", 1), ("copy",), keep("d"), ("get_iterator",), get("d"), A, ("load_item",), POP,
                  ("fetch", "@no"), POP, POP, "no"], "KeyError", '"a"')
        self.bad([ONE, ONE, ("make_dict", 1), ("copy",), keep("d"), ("get_iterator",), get("d"), ONE, ("delete_item",),
                  ("fetch", "@no"), POP, POP, "no"], "FlowError")

    def test_an_iterator_of_an_iterator(self):
        rows = [text("ab"), keep("t"), get("iter"), get("t"), ("call", 1, ()), keep("i"), get("i"), ("get_iterator",),
                ("fetch", "@no"), keep("x"), POP, get("next"), get("i"), ("call", 1, ()), keep("y"), ("jump", "@end"), "no",
                "end"]
        self.tops(rows, {"x": '"a"', "y": '"b"'})


class TestErrors(MachineCase):
    """Raising, handling, leaving blocks."""

    def caught(self, *rows, then=(("drop_handled",),), depth=0, before=(), behind=()):
        """Return rows whose errors are taken by others behind them, and the handler."""
        kept = list(before) + ["start"] + list(rows) + ["stop", ("cut", 0), PUSH_NONE, RETURN, "caught"] + list(then)
        return kept + list(behind), (("@start", "@stop", "@caught", depth),)

    def check(self, wanted, *rows, then=(("drop_handled",),), units=(), **fields):
        rows, handlers = self.caught(*rows, then=then, **fields)
        return self.gives(rows, wanted, handlers=handlers, units=units)

    def test_raise(self):
        self.leaves([*ERROR, ("raise", 1)], "Error")
        self.leaves([get("KeyError"), A, ("call", 1, ()), ("raise", 1)], "KeyError", '"a"')
        self.leaves([ONE, ("raise", 1)], "KindError")
        self.leaves([get("Error"), ("raise", 1)], "KindError")
        self.leaves([("raise", 0)], "FlowError")
        run = self.leaves([*ERROR, get("KeyError"), CALL, ("raise", 2)], "Error")
        self.same([row[0] for row in run.end[1]], ["Error", "KeyError"])
        self.leaves([*ERROR, PUSH_NONE, ("raise", 2)], "Error")
        for rows in ([ONE, PUSH_NONE], [*ERROR, ONE], [*ERROR, get("Error")]):
            self.leaves(rows + [("raise", 2)], "KindError")

    def test_a_handler_takes_it(self):
        self.check({"x": "#1"}, get("y"), POP, then=(("load_handled",), keep("x"), ("drop_handled",)))
        self.check({"x": "1", "y": "2"}, ("raise", 0), before=(ONE, TWO, THREE), depth=2,
                   then=(("drop_handled",), keep("y"), keep("x")))

    def test_match(self):
        def match(cls, wanted):
            self.check({"x": wanted}, ONE, number(0), ("binary", "//"), POP, then=tuple(cls) + (
                ("match",), keep("x"), ("drop_handled",)))
        match([get("ZeroError")], "True")
        match([get("Error")], "True")
        match([get("KeyError")], "False")
        match([get("KeyError"), get("ZeroError"), ("make_tuple", 2)], "True")
        match([("make_tuple", 0)], "False")
        match([get("ZeroError"), ("make_class", "Z", ())], "False")
        for cls in ([ONE], [get("Error"), ONE, ("make_tuple", 2)], [get("Error"), ("make_list", 1)],
                    [PUSH_NONE, ("make_class", "A", ())]):
            rows, handlers = self.caught(ONE, number(0), ("binary", "//"), POP, then=tuple(cls) + (("match",), POP, POP))
            run = self.leaves(rows, "KindError", handlers=handlers)
            self.same([row[0] for row in run.end[1]], ["KindError", "ZeroError"])

    def test_again(self):
        rows, handlers = self.caught(("raise", 0), then=(("line", 4), ("again",)))
        run = self.leaves(rows, "FlowError", handlers=handlers)
        self.same(run.end[1][0][2], (("main", 0),))
        # Outside of its own range another handler takes it.
        rows += ["twice", ("load_handled",), keep("x"), ("drop_handled",)]
        self.gives(rows, {"x": "#1"}, handlers=handlers + (("@caught", "@twice", "@twice", 0),))

    def test_handled_errors_are_causes(self):
        rows, handlers = self.caught(ONE, number(0), ("binary", "//"), POP, then=(get("x"), POP, ("drop_handled",)))
        run = self.leaves(rows, "NameError", '"x"', handlers=handlers)
        self.same([row[0] for row in run.end[1]], ["NameError", "ZeroError"])
        rows, handlers = self.caught(ONE, number(0), ("binary", "//"), POP, then=(("drop_handled",), get("x"), POP))
        run = self.leaves(rows, "NameError", '"x"', handlers=handlers)
        self.same(len(run.end[1]), 1)
        rows, handlers = self.caught(ONE, number(0), ("binary", "//"), POP, then=(("hold",), get("x"), POP, POP))
        run = self.leaves(rows, "NameError", '"x"', handlers=handlers)
        self.same([row[0] for row in run.end[1]], ["NameError", "ZeroError"])
        rows, handlers = self.caught(ONE, number(0), ("binary", "//"), POP, then=(("raise", 0),))
        self.leaves(rows, "ZeroError", handlers=handlers)
        rows, handlers = self.caught(ONE, number(0), ("binary", "//"), POP, then=(("drop_handled",), ("raise", 0)))
        self.leaves(rows, "FlowError", handlers=handlers)

    def test_the_topmost_handled_error_counts(self):
        rows = ["one", ONE, number(0), ("binary", "//"), POP, PUSH_NONE, RETURN, "two", get("x"), POP, ("cut", 0), PUSH_NONE,
                RETURN, "three", ("raise", 0)]
        run = self.leaves(rows, "NameError", '"x"', handlers=(("@one", "@two", "@two", 0), ("@two", "@three", "@three", 1)))
        self.same([row[0] for row in run.end[1]], ["NameError", "ZeroError"])
        rows[-1:] = [("drop_handled",), ("raise", 0)]
        self.leaves(rows, "ZeroError", handlers=(("@one", "@two", "@two", 0), ("@two", "@three", "@three", 1)))

    def test_leaving_blocks(self):
        for reason, name in ((0, "next"), (1, "a"), (2, "b"), (3, "c")):
            rows = [A, B, THREE, ("leave", 1, reason), ("end_finally", "@a", "@b", "@c"), text("next"), keep("x"),
                    ("jump", "@end"), "a", keep("v"), text("a"), keep("x"), ("jump", "@end"), "b", text("b"), keep("x"),
                    ("jump", "@end"), "c", text("c"), keep("x"), "end", keep("y")]
            wanted = {"x": '"' + name + '"', "y": '"a"'}
            if reason == 1:
                wanted["v"] = "3"
            self.gives(rows, wanted)

    def test_hold(self):
        then = (("hold",), ("end_finally", -1, -1, -1))
        rows, handlers = self.caught(get("x"), POP, then=then)
        self.leaves(rows, "NameError", '"x"', handlers=handlers)

    def manager(self, enter, leave):
        """Return rows that leave an object whose class has these two functions, and their units."""
        units = [unit("enter", ("line", 1), *enter, RETURN, parameters=("self",)),
                 unit("leave", ("line", 2), *leave, RETURN, parameters=("self", "error"))]
        return [PUSH_NONE, ("make_function", 1), ("make_function", 2), ("make_class", "M", ("enter", "leave")), CALL], units

    def test_enter_with(self):
        rows, units = self.manager([TWO], [ONE])
        run = self.gives(rows + [("enter_with",), keep("w"), keep("m")], {"m": "#1", "w": "2"}, units=units)
        self.same(run.lines, [("main", 0), ("enter", 1)])
        for wrong in ([ONE], [PUSH_NONE, ("make_class", "M", ()), CALL],
                      [PUSH_NONE, ONE, ("make_function", 2), ("make_class", "M", ("enter", "leave")), CALL],
                      [PUSH_NONE, ("make_function", 1), ("make_class", "M", ("enter",)), CALL], [get("len")],
                      [PUSH_NONE, ("make_function", 1), get("len"), ("make_class", "M", ("enter", "leave")), CALL]):
            run = self.leaves(wrong + [("enter_with",), POP, POP], "KindError", units=units)
            self.same(run.lines, [("main", 0)])

    def test_call_leave_and_end_with(self):
        end = [("call_leave",), ("end_with", "@a", "@b", "@c"), ONE, keep("x"), ("jump", "@end"), "a", keep("v"), TWO,
               keep("x"), ("jump", "@end"), "b", THREE, keep("x"), ("jump", "@end"), "c", A, keep("x"), "end"]
        rows, units = self.manager([TWO], [("load", 1), keep("e"), ("push", TRUE)])
        for reason, word in ((0, "1"), (1, "2"), (2, "3"), (3, '"a"')):
            value = [B] if reason == 1 else []
            wanted = {"x": word, "e": "None"}
            if value:
                wanted["v"] = '"b"'
            self.gives(rows + value + [("leave", 1, reason)] + end, wanted, units=units)
        self.leaves([ONE, ("leave", 1, 0)] + end, "KindError")
        self.leaves([PUSH_NONE, ("make_class", "M", ()), CALL, ("leave", 1, 0)] + end, "KindError")
        for value, going in ((TRUE, True), (FALSE, False), (NONE, False), (("text", "a"), True)):
            units[1] = unit("leave", LINE, ("load", 1), keep("e"), ("push", value), RETURN, parameters=("self", "error"))
            body = rows + ["start", get("y"), POP, "stop", ("leave", 1, 0), ("jump", "@last"), "caught", ("hold",), "last"]
            run = self.finished(*body, *end, units=units, handlers=(("@start", "@stop", "@caught", 1),))
            if going:
                self.same((run.end, words_of(run)), (("done",), {"e": "#1", "x": "1"}))
            else:
                self.same(run.end, ("error", (("NameError", '"y"', (("main", 0),)),)))

    def test_errors_out_of_called_and_resumed_frames(self):
        fails = unit("f", ("line", 3), ONE, number(0), ("binary", "//"), RETURN)
        waits = unit("g", ("line", 4), ONE, ("yield",), POP, get("nothing"), RETURN, yields=True)
        stops = unit("h", ("line", 5), get("StopError"), CALL, ("raise", 1), PUSH_NONE, RETURN, yields=True)
        units = [fails, waits, stops]
        taken = (("load_handled",), keep("e"), ("drop_handled",), keep("x"))
        # The operands are taken when the error comes; what is below them stays.
        self.check({"e": "#1", "x": '"a"'}, ("make_function", 1), CALL, POP, before=(A,), depth=1, then=taken, units=units)
        run = self.leaves([("make_function", 1), CALL], "ZeroError", units=units)
        self.same(run.end[1][0][2], (("main", 0), ("f", 3)))
        rows = [("make_function", 2), CALL, ("get_iterator",), ("fetch", "@no"), POP, ("fetch", "@no"), POP, POP, "no"]
        self.leaves(rows, "NameError", '"nothing"', units=units)
        rows = [("make_function", 3), CALL, ("get_iterator",), ("fetch", "@no"), POP, POP, "no"]
        run = self.leaves(rows, "FlowError", units=units)
        self.same(run.end[1], (("FlowError", "", (("main", 0), ("h", 5))), ("StopError", "", (("main", 0), ("h", 5)))))
        self.check({"e": "#1", "x": '"a"'}, ("make_function", 3), CALL, ("get_iterator",), ("fetch", "@no"), POP, POP, "no",
                   before=(A,), depth=1, then=taken, units=units)

    def test_close(self):
        closes = unit("g", ("line", 1), "start", ONE, ("yield",), "stop", POP, PUSH_NONE, RETURN, "caught", ("load_handled",),
                      keep("e"), ("again",), yields=True, handlers=(("@start", "@stop", "@caught", 0),))
        yields = unit("h", ("line", 2), "start", ONE, ("yield",), "stop", POP, PUSH_NONE, RETURN, "caught", ("drop_handled",),
                      TWO, ("yield",), RETURN, yields=True, handlers=(("@start", "@stop", "@caught", 0),))
        first = [CALL, keep("i"), get("next"), get("i"), ("call", 1, ()), POP, get("i"), ("load_field", "close"), CALL]
        self.gives([("make_function", 1)] + first + [keep("x")], {"x": "None", "i": "#2", "e": "#1"}, units=[closes, yields])
        self.leaves([("make_function", 2)] + first, "FlowError", units=[closes, yields])


class TestMachineFaults(unittest.TestCase):
    """Point 76: codes that were not checked."""

    def run_unchecked(self, *rows, handlers=(), units=(), **fields):
        """Run rows that are put into the code after it was checked."""
        run = machine(units=[unit("f", LINE, PUSH_NONE, RETURN)])
        codes = run.units
        changed = compiled(*rows, handlers=handlers, units=units, **fields).codes
        for code, other in zip(codes, changed):
            for word in ("instructions", "handlers", "slots", "cells", "free", "extra", "parameters", "yields"):
                setattr(code, word, getattr(other, word))
        return run.finish()

    def faults(self, *rows, **fields):
        with self.subTest(rows=rows):
            with self.assertRaises(MachineFault):
                self.run_unchecked(*rows, **fields)

    def test_entries_that_are_not_there(self):
        for row in (POP, ("copy",), ("swap",), ("lift",), ("copy_two",), ("jump_true", 1), ("keep_false", 1), keep("x"),
                    ("make_list", 1), ("make_dict", 1), ("make_class", "A", ()), ("unpack", 0), ("load_item",), ("call", 0, ()),
                    ("get_iterator",), ("fetch", 1), ("raise", 1), ("match",), ("load_handled",), ("drop_handled",),
                    ("again",), ("leave", 1, 0), ("leave", 0, 1), ("hold",), ("end_finally", 1, 1, 1), ("cut", 1),
                    ("enter_with",), ("call_leave",), ("end_with", 1, 1, 1), ("append_item",), ("unary", "-"),
                    ("binary", "+"), ("load_field", "x"), ("store_field", "x"), ("load_slice",), ("guard", 1, 0, 1)):
            self.faults(row)
        self.faults(ONE, ("swap",))
        self.faults(ONE, TWO, ("lift",))
        self.faults(get("len"), ("call", 1, ()))

    def test_entries_of_another_kind(self):
        iterate = (A, ("get_iterator",))
        for row in (("copy",), keep("x"), ("jump_true", 1), ("make_list", 1), ("unpack", 1), ("call", 0, ()), ("raise", 1),
                    ("load_handled",), ("drop_handled",), ("again",), ("hold",), ("end_finally", 1, 1, 1), ("enter_with",),
                    ("get_iterator",), ("unary", "not"), RETURN, ("leave", 0, 1), ("load_field", "x")):
            self.faults(*iterate, row)
        self.faults(*iterate, ONE, ("swap",))
        self.faults(*iterate, ONE, ("binary", "+"))
        for row in (("fetch", 1), ("load_handled",), ("drop_handled",), ("again",), ("hold",), ("end_finally", 1, 1, 1)):
            self.faults(ONE, row)
        # An iterator that is a value is no iterator on the stack.
        self.faults(get("iter"), A, ("call", 1, ()), ("fetch", 1))
        self.faults(ONE, TWO, ("call_leave",))
        self.faults(ONE, TWO, TWO, ("end_with", 1, 1, 1))
        self.faults(ONE, ("leave", 1, 0), ("copy",))
        self.faults(ONE, ("leave", 1, 0), RETURN)
        self.faults(ONE, ("match",))

    def test_places_that_are_not_there(self):
        self.faults(("jump", 99))
        self.faults(("jump", -1))
        self.faults(("load", 0))
        self.faults(ONE, ("store", 3), slots=("a",))
        self.faults(("load_cell", 0))
        self.faults(("load_cell", 0), free=("a",))
        self.faults(("push_cell", 0), free=("a",))
        self.faults(("make_function", 7))
        self.faults(("load", 1), slots=("a",), extra=2)
        self.faults(("leave", 0, 2), ("end_finally", 1, -1, 1))
        self.faults(("raise", 0), handlers=((1, 2, 99, 0),))
        self.faults(("raise", 0), handlers=((1, 2, 3, 5),))
        self.faults(("raise", 0), handlers=((1, 2, 3, -1),))
        # The end of the code is left: the program's rows are behind these.
        self.faults(("jump", 4))

    def test_instructions_of_no_form(self):
        for row in (("what",), ("load_global",), ("push", ("number", "a")), (), ("jump", None), ("call", 0), ("line", -1)):
            self.faults(row)

    def test_inlined_functions_and_generators(self):
        self.faults(ONE, ("leave_inline", 1, 0))
        self.faults(ONE, ("enter_inline", 1, 0), ONE, ("enter_inline", 1, 0))
        self.faults(ONE, ("enter_inline", 1, 0), ONE, ("leave_inline", 0, 0))
        self.faults(ONE, ("yield",))

    def test_checked_codes_have_none(self):
        self.assertEqual(self.run_unchecked(ONE, keep("x")), ("done",))


if __name__ == "__main__":
    unittest.main()
