"""Points 76, 77 and 79, and the options and ends of the machine."""

import random
import unittest

from likerun.code import Code, Compiled
from likerun.compiler import compile_program
from likerun.errors import BadCode, BadLevel, BadOption
from likerun.heap import Heap
from likerun.machine import Machine
from likerun.runner import Runner
from tests.codes import random_codes
from tests.machines import (
    LINE, POP, PUSH_NONE, RETURN, MachineCase, compiled, compiled_text, main, machine, number, text, unit, words_of)
from tests.programs import random_program

ONE, TWO, A = number(1), number(2), text("a")
CALL = ("call", 0, ())
EXAMPLE = """def f(n):
    return 10 // n
try:
    print(f(5))
    print(f(0))
except ZeroError as e:
    print(e)
"""


def keep(name):
    return ("store_global", name)


def get(name):
    return ("load_global", name)


def run_of(source, **options):
    return Machine(compiled_text(source), **options)


class TestMaking(MachineCase):

    def test_what_it_has(self):
        run = machine()
        self.assertIsInstance(run, Runner)
        self.assertIsInstance(run.heap, Heap)
        self.same((run.ticks, run.steps, run.end, run.prints, run.lines, run.trace), (0, 0, None, [], [], ()))
        self.same((len(run.heap), run.held(), run.picture()), (0, [], "globals\nobjects"))

    def test_codes_are_checked_first(self):
        bad = Compiled([main(), unit("f", POP, RETURN)])
        with self.assertRaises(BadCode) as caught:
            Machine(bad, inputs=5, schedule=(9,))
        self.same(caught.exception.unit, 1)

    def test_options_and_their_order(self):
        codes = compiled()
        options = {"inputs": [None], "room": -1, "fuel": -1, "depth": 0, "schedule": (3,)}
        for word in list(options):
            with self.assertRaises(BadOption) as caught:
                Machine(codes, **options)
            self.same(caught.exception.option, word)
            del options[word]
        for word, good, bad in (("room", (0, 10 ** 9), (-1, 10 ** 9 + 1, True, None)), ("fuel", (0, 100000), (-1, 100001, "1")),
                                ("depth", (1, 40), (0, 41, None)), ("inputs", ((), [], ["a", 1]), ([True], "ab", None, [None])),
                                ("schedule", ((), [], (0, 1, 2), [2]), ((3,), (-1,), (True,), (0, None), None, 1, "012"))):
            for value in good:
                Machine(codes, **{word: value})
            for value in bad:
                with self.subTest(word=word, value=value):
                    with self.assertRaises(BadOption) as caught:
                        Machine(codes, **{word: value})
                    self.same(caught.exception.option, word)

    def test_options_are_copied(self):
        inputs, schedule = [1, 2], [0, 0]
        run = Machine(compiled_text("print(take(), take())\nx = []"), inputs=inputs, schedule=schedule)
        inputs[:] = []
        schedule[:] = [9]
        self.same(run.finish(), ("done",))
        self.same(run.prints, ["1 2"])
        self.same(inputs, [])

    def test_the_example(self):
        run = run_of(EXAMPLE)
        self.same(run.finish(), ("done",))
        self.same(" ".join("{} {},".format(*row) for row in run.lines),
                  "main 0, main 1, main 4, f 1, f 2, main 5, f 1, f 2, main 6, main 7,")
        self.same(run.prints, ["2", "ZeroError()"])
        self.same(run.report(), (("2", "ZeroError()"), ("done",), tuple(run.lines)))
        errors = [value for value in run.held() if run.heap.kind_of(value) == "instance"]
        self.same([run.heap.tag_of(error)[1] for error in errors], [(("main", 5), ("f", 2))])


class TestTicks(MachineCase):

    def test_the_first_tick_enters_the_program(self):
        run = machine()
        self.same(run.tick(), True)
        self.same((run.ticks, run.steps, run.trace, run.picture()), (1, 0, (("main", 0),), "globals\nframe main line 0\nobjects"))
        self.same(run.tick(), True)
        self.same((run.ticks, run.steps, run.lines), (2, 1, [("main", 0)]))

    def test_one_instruction_in_each(self):
        run = machine(ONE, keep("x"), TWO, keep("y"))
        seen = []
        while run.tick():
            seen.append((run.ticks, tuple(words_of(run)), run.end))
        self.same(seen, [(1, (), None), (2, (), None), (3, (), None), (4, ("x",), None), (5, ("x",), None), (6, ("x", "y"), None),
                         (7, ("x", "y"), None), (8, ("x", "y"), ("done",))])
        self.same((run.tick(), run.ticks, run.end), (False, 8, ("done",)))

    def test_calls_and_returns(self):
        run = machine(("make_function", 1), CALL, keep("x"), units=[unit("f", ("line", 5), ONE, RETURN)])
        traces = []
        while run.tick():
            traces.append((run.trace, run.steps))
        here, there = (("main", 0),), (("main", 0), ("f", 1))
        # The call ends its tick when the frame is there; the return also finishes the call.
        self.same(traces, [(here, 0), (here, 1), (here, 1), (there, 1), ((("main", 0), ("f", 5)), 2),
                           ((("main", 0), ("f", 5)), 2), (here, 2), (here, 2), (here, 2), ((), 2)])
        self.same(words_of(run), {"x": "1"})

    def ticks_of(self, run):
        """Return the trace and the steps behind each tick."""
        found = []
        while run.tick():
            found.append((run.trace, run.steps))
        return found

    def test_an_error_is_raised_and_handled_in_one_tick(self):
        fails = unit("f", LINE, get("nothing"), RETURN)
        middle = unit("g", LINE, ("make_function", 1), CALL, RETURN)
        rows = ["start", ("make_function", 2), CALL, "stop", POP, PUSH_NONE, RETURN, "caught", ("drop_handled",)]
        run = machine(*rows, units=[fails, middle], handlers=(("@start", "@stop", "@caught", 0),))
        traces = self.ticks_of(run)
        at = [len(trace) for trace, _ in traces].index(3)
        # The line of f, then the name that is not bound: the frames are gone, the handler has done nothing.
        self.same([len(trace) for trace, _ in traces[at:at + 4]], [3, 3, 1, 1])
        self.same(run.end, ("done",))
        run = machine(("make_function", 2), CALL, units=[fails, middle])
        traces = self.ticks_of(run)
        self.same((traces[-1], run.end[0]), (((), 3), "error"))
        self.same([len(trace) for trace, _ in traces[-2:]], [3, 0])

    def test_the_first_instruction_of_a_handler_is_that_of_the_next_tick(self):
        rows = ["start", ("raise", 0), "caught", ("line", 8), ("load_handled",), keep("x"), ("drop_handled",)]
        run = machine(*rows, handlers=(("@start", "@caught", "@caught", 0),))
        run.advance()
        self.same(run.tick(), True)
        self.same((run.steps, run.ticks), (1, 3))
        self.same(run.held(), [("handled", 1)])
        run.tick()
        self.same((run.steps, run.ticks), (2, 4))

    def test_resuming(self):
        yields = unit("g", ("line", 5), ONE, ("yield",), RETURN, yields=True)
        rows = [("make_function", 1), CALL, ("get_iterator",), ("fetch", "@no"), keep("x"), ("fetch", "@no"), POP, POP, "no"]
        run = machine(*rows, units=[yields])
        lengths = [len(trace) for trace, _ in self.ticks_of(run)]
        # Enter, line, function, call, iterator; fetch, line, push, yield; store; fetch, return (with "no item").
        self.same(lengths, [1, 1, 1, 1, 1, 2, 2, 2, 1, 1, 2, 1, 1, 0])
        self.same(words_of(run), {"x": "1"})

    def test_close(self):
        yields = unit("g", LINE, "start", ("line", 6), ONE, ("yield",), "stop", POP, PUSH_NONE, RETURN, "caught",
                      ("load_handled",), keep("e"), ("again",), yields=True, handlers=(("@start", "@stop", "@caught", 0),))
        plain = unit("h", LINE, ONE, ("yield",), RETURN, yields=True)

        def closing(number_of_unit):
            return machine(("make_function", number_of_unit), CALL, keep("i"), get("next"), get("i"), ("call", 1, ()), POP,
                           get("i"), ("load_field", "close"), "close", CALL, keep("x"), units=[yields, plain])
        run = closing(1)
        while len(run.trace) < 2:
            run.tick()
        while len(run.trace) == 2:
            run.tick()
        before = run.ticks
        while len(run.trace) == 1:
            run.tick()
        # CloseError is raised in the tick of the call, and the handler in the generator has taken it.
        self.same(run.ticks - before, 4)
        self.same(run.trace, (("main", 0), ("g", 6)))
        run.tick()
        run.tick()
        self.same(words_of(run)["e"], "#1")
        run.tick()
        # Raised again it leaves the generator, and the call is finished in the same tick.
        self.same(run.trace, (("main", 0),))
        run.tick()
        self.same(words_of(run)["x"], "None")
        run = closing(2)
        while run.tick() and "x" not in words_of(run):
            if len(run.trace) == 2:
                seen = run.ticks
        # Without a handler the CloseError is out within the tick: next, line, push, yield, pop, get, field, close, store.
        self.same(run.ticks - seen, 6)

    def test_after_the_end(self):
        for rows, options, end in ((((),), {}, "done"), (((("line", 2),) * 3), {"fuel": 2}, "steps"),
                                   ((("make_list", 0), keep("x"), ("line", 2), ("line", 3)), {"room": 1}, "room"),
                                   ((get("x"), POP), {}, "error")):
            run = machine(*[row for row in rows if row], options=dict(options, schedule=(2,)))
            while run.tick():
                pass
            self.same(run.end[0], end)
            state = (run.ticks, run.steps, run.picture(), run.report(), len(run.heap))
            for _ in range(3):
                self.same((run.tick(), run.advance(), run.finish(), list(run.walk())), (False, False, run.end, []))
            self.same((run.ticks, run.steps, run.picture(), run.report(), len(run.heap)), state)

    def test_ends_at_a_step(self):
        run = machine(("line", 5), ("line", 6), options={"fuel": 1})
        self.same((run.advance(), run.advance()), (True, False))
        self.same((run.end, run.steps, run.trace, run.ticks), (("steps",), 1, (("main", 5),), 3))
        run = machine(options={"fuel": 0})
        self.same((run.advance(), run.end, run.lines, run.ticks), (False, ("steps",), [], 2))
        run = machine(("make_list", 0), keep("x"), ("line", 7), ("line", 8), options={"room": 1})
        self.same((run.advance(), run.advance()), (True, False))
        self.same((run.end, run.lines, run.trace), (("room",), [("main", 0), ("main", 7)], (("main", 7),)))

    def test_ways_to_go_on_by_turns(self):
        source = "x = 0\nwhile x < 4:\n    x += 1\nprint(x)"
        run = run_of(source)
        wanted = run_of(source)
        wanted.finish()
        self.same(run.tick(), True)
        self.same(run.advance(), True)
        self.same(run.lines, [("main", 0)])
        walk = run.walk()
        self.same(next(walk), ("main", 1))
        run.tick()
        run.tick()
        self.same(run.steps, 2)
        self.same(next(walk), ("main", 2))
        self.same(run.advance(), True)
        # The walk tells the steps that were taken by other ways as well.
        self.same(next(walk), ("main", 3))
        walk.close()
        self.same(run.steps, 4)
        self.same(run.finish(), ("done",))
        self.same(run.report(), wanted.report())

    def test_a_walk_tells_the_step_at_which_the_room_ends_the_run(self):
        run = machine(("make_list", 0), keep("x"), ("line", 7), ("line", 8), options={"room": 1})
        self.same(list(run.walk()), [("main", 0), ("main", 7)])

    def test_names_and_levels(self):
        run = machine(("make_function", 1), ONE, ("call", 1, ()), POP,
                      units=[unit("f", ("line", 3), ("line", 4), ONE, RETURN, parameters=("a",), slots=("a", "b"), cells=("b",))])
        run.advance()
        run.advance()
        self.same((run.names(0), run.names(1)), ([], [("a", "1"), ("b", "#1")]))
        self.same(run.picture(), "globals\nframe main line 0\nframe f line 3\n  a = 1\n  b = #1\nobjects\n  #1 cell unset")
        self.same(run.room_used(), 3)
        for level in (-1, 2):
            with self.assertRaises(BadLevel) as caught:
                run.names(level)
            self.same(caught.exception.level, level)


class TestBounds(MachineCase):
    """Point 76: how many ticks there are."""

    def bounded(self, codes, **options):
        run = Machine(codes, **options)
        many = max(len(code) for code in codes.codes)
        while run.tick():
            self.assertLessEqual(run.ticks, run.steps * many + 2)
        self.assertLessEqual(run.ticks, options.get("fuel", 2000) * many + 2)
        return run

    def test_ticks_of_codes_written_by_hand(self):
        for seed in range(40):
            rng = random.Random(seed)
            codes = random_codes(rng, compile_program(random_program(rng)), 15)
            self.bounded(codes, fuel=rng.choice([0, 1, 40, 300]), depth=rng.choice([2, 24]))

    def test_the_bound_is_reached(self):
        loop = Compiled([Code("main", 0, (LINE, ONE, POP, ("jump", 0)))])
        run = self.bounded(loop, fuel=7)
        self.same((run.ticks, run.end), (7 * 4 + 2, ("steps",)))


class TestInlinedFunctions(MachineCase):
    """Point 79."""

    def setUp(self):
        # Two parameters and a third slot.
        self.inner = unit("f", ("line", 9), PUSH_NONE, RETURN, line=6, parameters=("a", "b"), slots=("a", "b", "c"))
        self.enter = [get("int"), A, TWO, ("enter_inline", 1, 0)]

    def run_of(self, *rows, handlers=(), **options):
        return machine(*rows, units=[self.inner], extra=5, handlers=handlers, options=options)

    def test_it_counts_as_a_frame(self):
        run = self.run_of(*self.enter, ("line", 7), ONE, ("leave_inline", 1, 0), POP, ("line", 8))
        for _ in range(6):
            run.tick()
        # It has the line of its unit before its first step.
        self.same(run.trace, (("main", 0), ("f", 6)))
        self.same(run.names(1), [("a", '"a"'), ("b", "2")])
        run.advance()
        self.same(run.trace, (("main", 0), ("f", 7)))
        self.same(run.lines, [("main", 0), ("f", 7)])
        self.same(run.picture(), 'globals\nframe main line 0\nframe f line 7\n  a = "a"\n  b = 2\nobjects')
        self.same((run.names(0), run.names(1)), ([], [("a", '"a"'), ("b", "2")]))
        run.advance()
        self.same((run.trace, run.lines[-1]), ((("main", 8),), ("main", 8)))
        self.same(run.picture(), "globals\nframe main line 8\nobjects")
        self.same(run.finish(), ("done",))

    def test_slots(self):
        run = self.run_of(*self.enter, ("load", 0), keep("x"), ("load", 1), ("store", 2), ("line", 7), ("load", 2), keep("y"),
                          ("delete", 0), ("line", 8), ONE, ("leave_inline", 1, 0), POP)
        for _ in range(2):
            run.advance()
        self.same(run.names(1), [("a", '"a"'), ("b", "2"), ("c", "2")])
        run.advance()
        self.same(run.names(1), [("b", "2"), ("c", "2")])
        run.finish()
        self.same(words_of(run), {"x": '"a"', "y": "2"})
        for row in (("load", 2), ("delete", 2)):
            run = self.leaves(self.enter + [row, ONE, ("leave_inline", 1, 0), ("cut", 0)], "NameError", '"c"',
                              units=[self.inner], extra=5)
            self.same(run.end[1][0][2], (("main", 0), ("f", 6)))

    def test_slots_are_unbound_when_it_is_left_and_entered(self):
        inside = [ONE, ("store", 2), ONE, ("leave_inline", 1, 0), POP]
        run = self.leaves(self.enter + inside + self.enter + [("load", 2), ("leave_inline", 1, 0), POP], "NameError", '"c"',
                          units=[self.inner], extra=5)
        run = self.run_of(*self.enter, *inside, ("line", 3))
        run.advance()
        run.advance()
        self.same(set(run.held()), {("unset",)})

    def test_the_value_and_what_stands_below(self):
        self.gives([A] + self.enter + [TWO, ("leave_inline", 1, 0), keep("x"), keep("y")], {"x": "2", "y": '"a"'},
                   units=[self.inner], extra=3)

    def test_room(self):
        rows = [get("int"), A, ("make_list", 0), ("enter_inline", 1, 0), ("line", 7), ONE, ("leave_inline", 1, 0), POP, ("line", 8)]
        run = self.run_of(*rows)
        run.advance()
        self.same(run.room_used(), 0)
        run.advance()
        self.same(run.room_used(), 2)
        run.advance()
        self.same(run.room_used(), 0)
        run = self.run_of(*rows, room=1)
        self.same(run.finish(), ("room",))
        self.same((run.trace, run.lines), ((("main", 0), ("f", 7)), [("main", 0), ("f", 7)]))

    def test_an_error_while_it_is_open(self):
        rows = ["start"] + self.enter + [("line", 7), get("nothing"), ("leave_inline", 1, 0), "stop", ("cut", 0), PUSH_NONE,
                                         RETURN, "caught", ("line", 8), ("load_handled",), keep("e"), ("drop_handled",)]
        run = self.run_of(*rows, handlers=(("@start", "@stop", "@caught", 0),))
        for _ in range(3):
            run.advance()
        self.same(run.trace, (("main", 8),))
        # The slots of the function are unbound, only the error is held.
        self.same([entry for entry in run.held() if entry != ("unset",)], [("handled", 1)])
        self.same(run.heap.tag_of(("ref", 1))[1], (("main", 0), ("f", 7)))
        run.finish()
        self.same(words_of(run), {"e": "#1"})
        run = self.leaves(self.enter + [("line", 7), get("nothing"), ("leave_inline", 1, 0), POP], "NameError", '"nothing"',
                          units=[self.inner], extra=5)
        self.same(run.end[1][0][2], (("main", 0), ("f", 7)))

    def test_an_error_that_goes_on_closes_it(self):
        # Inside, what was pending before is raised again: end_finally may stand there.
        rows = ["one", get("nothing"), POP, "two", PUSH_NONE, RETURN, "held", get("int"), A, TWO, ("enter_inline", 1, 0),
                ("line", 7), ("hold",), ("end_finally", -1, -1, -1), ONE, ("leave_inline", 1, 0), "three", POP, PUSH_NONE, RETURN,
                "caught", ("line", 8), ("load_handled",), keep("e"), ("drop_handled",)]
        run = self.run_of(*rows, handlers=(("@one", "@two", "@held", 0), ("@held", "@three", "@caught", 0)))
        for _ in range(3):
            run.advance()
        self.same(run.trace, (("main", 8),))
        self.same(run.finish(), ("done",))
        self.same(words_of(run), {"e": "#1"})

    def test_depth(self):
        inside = [("line", 7), ONE, ("leave_inline", 1, 0), POP]
        run = self.run_of(*self.enter, *inside, depth=1)
        run.finish()
        self.same(run.end, ("error", (("DepthError", "", (("main", 0),)),)))
        run = self.run_of(*self.enter, *inside, depth=2)
        self.same(run.finish(), ("done",))
        # The operands are taken before it is raised.
        rows = [A] + self.enter[:3] + ["in", self.enter[3], "stop"] + inside + [
            ("jump", "@end"), "caught", ("drop_handled",), "end", keep("x")]
        run = self.run_of(*rows, handlers=(("@in", "@stop", "@caught", 1),), depth=1)
        self.same(run.finish(), ("done",))
        self.same(words_of(run), {"x": '"a"'})

    def test_a_guard(self):
        # Whether a function of the unit stands below the arguments.
        for function, wanted in ((("make_function", 1), "1"), (get("int"), "2"), (("make_function", 0), "2"), (A, "2"),
                                 (("make_list", 0), "2")):
            rows = [function, A, TWO, ("guard", 1, 2, "@slow"), ONE, keep("x"), ("jump", "@end"), "slow", TWO, keep("x"), "end",
                    keep("b"), keep("a"), POP]
            run = self.run_of(*rows)
            run.finish()
            self.same(words_of(run), {"a": '"a"', "b": "2", "x": wanted})

    def test_in_a_generator(self):
        inner = unit("f", LINE, PUSH_NONE, RETURN, parameters=("p",))
        outer = unit("g", ("line", 4), get("int"), ("load", 0), ("enter_inline", 2, 1), ("line", 5), ("load", 1),
                     ("leave_inline", 2, 1), ("yield",), RETURN, parameters=("q",), extra=1, yields=True)
        run = machine(get("list"), ("make_function", 1), A, ("call", 1, ()), ("get_iterator",), ("fetch", "@no"), keep("x"),
                      ("fetch", "@no"), POP, POP, "no", POP, units=[outer, inner])
        for _ in range(3):
            run.advance()
        self.same(run.trace, (("main", 0), ("g", 4), ("f", 5)))
        self.same(run.finish(), ("done",))
        self.same(words_of(run), {"x": '"a"'})


class TestErrorsOfTheMachine(MachineCase):

    def test_a_trace_has_the_lines_of_all_frames(self):
        run = run_of("def f(n):\n    if n:\n        f(n - 1)\n    raise Error(n)\nf(2)")
        run.finish()
        self.same(run.end, ("error", (("Error", "0", (("main", 5), ("f", 3), ("f", 3), ("f", 4))),)))
        self.same(run.trace, ())

    def test_truths_as_results_of_leave(self):
        run = run_of("class M:\n    def enter(self):\n        pass\n    def leave(self, e):\n        return [0]\n"
                     "with M():\n    1 // 0\nprint(1)")
        self.same((run.finish(), run.prints), (("done",), ["1"]))


if __name__ == "__main__":
    unittest.main()
