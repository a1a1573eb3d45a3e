"""Points 93 and 94: the debugger, and watches over steps."""

import random
import unittest

from likerun.compiler import compile_program
from likerun.debugger import Debugger, Watch, watch_steps
from likerun.errors import BadLevel, BadOption
from likerun.machine import Machine
from likerun.optimiser import optimise
from likerun.reading import Reading
from likerun.saving import load, save
from likerun.scopes import read_program
from tests.machines import MachineCase
from tests.programs import random_program
from tests.samples import SAMPLES

SOURCE = """def f(n):
    x = n
    if n:
        f(n - 1)
    return x
def g(n):
    yield n
    yield f(0)
y = f(1)
for z in g(2):
    print(z)
print([f(0) for k in "ab"])
"""


def runs_of(source, **options):
    """Return the three ways of running a text."""
    program = read_program(source)
    codes = compile_program(program)
    changed, _ = optimise(codes, ("inline", "fold", "thread", "dead", "tidy"))
    return Reading(program, **options), Machine(codes, schedule=(1, 2), **options), Machine(changed, **options)


class DebuggerCase(MachineCase):

    def debuggers(self, source=SOURCE, **options):
        return [Debugger(run) for run in runs_of(source, **options)]

    def all_give(self, debuggers, action, wanted=None):
        """The action gives the same for all debuggers, and what is wanted."""
        found = [action(debugger) for debugger in debuggers]
        for other in found[1:]:
            self.same(other, found[0])
        if wanted is not None:
            self.same(found[0], wanted)
        return found[0]


class TestMoves(DebuggerCase):

    def test_its_parts(self):
        run = runs_of("x = 1")[0]
        debugger = Debugger(run)
        self.assertIs(debugger.runner, run)
        self.same((debugger.patience, debugger.history(), debugger.breaks(), debugger.where()), (500, [], [], ()))

    def test_step(self):
        debuggers = self.debuggers()
        self.all_give(debuggers, lambda debugger: debugger.step(), (("main", 0),))
        self.all_give(debuggers, lambda debugger: debugger.step(), (("main", 1),))
        for _ in range(3):
            self.all_give(debuggers, lambda debugger: debugger.step())
        self.all_give(debuggers, lambda debugger: debugger.runner.steps, 5)

    def to(self, debuggers, *place):
        while debuggers[0].runner.trace[-1:] != (place,):
            for debugger in debuggers:
                debugger.step()

    def test_over(self):
        debuggers = self.debuggers()
        # A run that has not begun counts as one frame.
        self.all_give(debuggers, lambda debugger: debugger.over(), (("main", 0),))
        self.to(debuggers, "main", 9)
        self.all_give(debuggers, lambda debugger: debugger.over(), (("main", 10),))
        self.all_give(debuggers, lambda debugger: debugger.over(), (("main", 10),))
        self.all_give(debuggers, lambda debugger: debugger.over(), (("main", 11),))
        debuggers = self.debuggers()
        self.to(debuggers, "f", 4)
        self.all_give(debuggers, lambda debugger: debugger.over(), (("main", 9), ("f", 5)))
        # Out of the function there are fewer frames.
        self.all_give(debuggers, lambda debugger: debugger.over(), (("main", 10),))

    def test_out(self):
        debuggers = self.debuggers()
        self.to(debuggers, "f", 3)
        self.all_give(debuggers, lambda debugger: debugger.step())
        self.all_give(debuggers, lambda debugger: debugger.step(), (("main", 9), ("f", 4), ("f", 1)))
        self.all_give(debuggers, lambda debugger: debugger.out(), (("main", 9), ("f", 5)))
        self.all_give(debuggers, lambda debugger: debugger.out(), (("main", 10),))
        # Out of the outermost frame there is only the end.
        self.all_give(debuggers, lambda debugger: debugger.out(), ())
        self.all_give(debuggers, lambda debugger: debugger.runner.end, ("done",))
        debuggers = self.debuggers()
        self.all_give(debuggers, lambda debugger: debugger.out(), ())

    def test_go(self):
        debuggers = self.debuggers()
        for debugger in debuggers:
            self.same((debugger.add_break(2), debugger.add_break(7, "f"), debugger.add_break(8, "g")), (None, None, None))
        places = [self.all_give(debuggers, lambda debugger: debugger.go()) for _ in range(7)]
        self.same(places[:4], [(("main", 9), ("f", 2)), (("main", 9), ("f", 4), ("f", 2)), (("main", 10), ("g", 8)),
                               (("main", 10), ("g", 8), ("f", 2))])
        self.same(places[-1], ())
        # At least one step is taken from a breakpoint itself.
        source = "while True:\n    x = 1"
        debuggers = self.debuggers(source)
        for debugger in debuggers:
            debugger.add_break(1, "main")
        for steps in (2, 4, 6):
            self.all_give(debuggers, lambda debugger: debugger.go(), (("main", 1),))
            self.all_give(debuggers, lambda debugger: debugger.runner.steps, steps)

    def test_go_without_breakpoints_of_the_unit(self):
        debuggers = self.debuggers("def f():\n    x = 1\nf()\nf()")
        for debugger in debuggers:
            debugger.add_break(2, "main")
            debugger.add_break(2, "g")
        self.all_give(debuggers, lambda debugger: debugger.go(), ())

    def test_patience(self):
        source = "while True:\n    x = 1"
        debuggers = self.debuggers(source)
        for word in ("over", "out", "go"):
            debuggers = self.debuggers(source)
            for debugger in debuggers:
                debugger.patience = 7
                debugger.step()
            self.all_give(debuggers, lambda debugger: getattr(debugger, word)())
            wanted = 2 if word == "over" else 8
            self.all_give(debuggers, lambda debugger: debugger.runner.steps, wanted)
            for debugger in debuggers:
                debugger.set_patience(1)
            self.all_give(debuggers, lambda debugger: getattr(debugger, word)())
            self.all_give(debuggers, lambda debugger: debugger.runner.steps, wanted + 1)
        debuggers = self.debuggers(source)
        self.all_give(debuggers, lambda debugger: debugger.go())
        self.all_give(debuggers, lambda debugger: debugger.runner.steps, 500)

    def test_patience_is_checked(self):
        debugger = self.debuggers()[0]
        for value in (1, 3, 10 ** 9):
            debugger.patience = value
            self.same(debugger.patience, value)
            self.same(debugger.set_patience(value + 1), None)
            self.same(debugger.patience, value + 1)
        for value in (0, -1, -10 ** 9):
            with self.assertRaises(BadOption) as caught:
                debugger.patience = value
            self.same(caught.exception.option, "patience")
            with self.assertRaises(BadOption):
                debugger.set_patience(value)
            self.same(debugger.patience, 10 ** 9 + 1)

    def test_moves_after_the_end(self):
        for source, options in (("x = 1", {}), ("1 // 0", {}), ("x = 1\ny = 2", {"fuel": 2}), ("x = []\ny = x", {"room": 1})):
            debuggers = self.debuggers(source, **options)
            for debugger in debuggers:
                debugger.runner.finish()
            before = self.all_give(debuggers, lambda debugger: (debugger.runner.report(), debugger.where()))
            for word in ("step", "over", "out", "go"):
                self.all_give(debuggers, lambda debugger: getattr(debugger, word)(), before[1])
            self.all_give(debuggers, lambda debugger: (debugger.runner.report(), debugger.where()), before)
            self.all_give(debuggers, lambda debugger: debugger.history(),
                          [(word, before[1]) for word in ("step", "over", "out", "go")])

    def test_history(self):
        debuggers = self.debuggers("x = 1\ny = 2")
        for word in ("step", "over", "go", "out"):
            self.all_give(debuggers, lambda debugger: getattr(debugger, word)())
        wanted = [("step", (("main", 0),)), ("over", (("main", 1),)), ("go", ()), ("out", ())]
        self.all_give(debuggers, lambda debugger: debugger.history(), wanted)
        debuggers[0].history().append(5)
        self.same(debuggers[0].history(), wanted)

    def test_at_the_step_that_ends_the_run(self):
        for options in ({"fuel": 3}, {"room": 1}):
            debuggers = self.debuggers("x = []\ny = x\nz = y\nx = 1", **options)
            for debugger in debuggers:
                debugger.add_break(3)
            self.all_give(debuggers, lambda debugger: debugger.go())
            self.all_give(debuggers, lambda debugger: (debugger.runner.end, debugger.where(), debugger.runner.steps))


class TestBreakpoints(DebuggerCase):

    def test_setting_and_clearing(self):
        debugger = self.debuggers()[0]
        self.assertFalse((3, None) in debugger)
        debugger.add_break(3)
        debugger.add_break(3, "f")
        debugger.add_break(3)
        self.same([(3, None) in debugger, (3, "f") in debugger, (3, "g") in debugger, (4, None) in debugger], [True, True, False, False])
        self.assertTrue((4, "f") not in debugger)
        self.same(debugger.clear_break(3, "g"), False)
        self.same(debugger.clear_break(3), True)
        self.same(debugger.clear_break(3), False)
        self.same([(3, None) in debugger, (3, "f") in debugger], [False, True])
        self.same(debugger.clear_break(3, unit="f"), True)
        self.same(debugger.breaks(), [])

    def test_their_order(self):
        debugger = self.debuggers()[0]
        for line, unit in ((9, "b"), (2, "main"), (9, None), (10, None), (9, "a"), (2, "f"), (-1, "z"), (9, "B"), (9, "")):
            debugger.add_break(line, unit)
        wanted = [(-1, "z"), (2, "f"), (2, "main"), (9, None), (9, ""), (9, "B"), (9, "a"), (9, "b"), (10, None)]
        self.same(debugger.breaks(), wanted)
        debugger.breaks().append((1, None))
        self.same(debugger.breaks(), wanted)
        self.same((1, None) in debugger, False)

    def test_a_cleared_one_is_passed(self):
        debuggers = self.debuggers("x = 1\ny = 2\nz = 3")
        for debugger in debuggers:
            debugger.add_break(2)
            debugger.add_break(2, "main")
            debugger.clear_break(2)
        self.all_give(debuggers, lambda debugger: debugger.go(), (("main", 2),))
        debuggers = self.debuggers("x = 1\ny = 2\nz = 3")
        for debugger in debuggers:
            debugger.add_break(2)
            debugger.add_break(3)
            debugger.clear_break(2)
        self.all_give(debuggers, lambda debugger: debugger.go(), (("main", 3),))


class TestBack(DebuggerCase):

    def states(self, source, **options):
        """Return the picture and the trace after each number of steps."""
        run = runs_of(source, **options)[0]
        found = [(run.picture(), run.trace)]
        while run.advance() or run.steps == len(found):
            found.append((run.picture(), run.trace))
            if run.end is not None:
                break
        return found

    def check(self, source, many, **options):
        """Go back from after so many steps, by each number of steps; more steps than there are lead to the end."""
        states = self.states(source, **options)
        for run in runs_of(source, **options):
            for _ in range(many):
                run.advance()
            debugger = Debugger(run)
            before = (run.picture(), run.report(), run.steps)
            for n in range(run.steps + 1):
                other = debugger.back(n)
                self.assertIsInstance(other, Debugger)
                self.assertIsNot(other.runner, run)
                self.same(other.runner.steps, run.steps - n)
                self.assertEqual((other.runner.picture(), other.where()), states[run.steps - n])
                self.same(other.history(), [])
                if n > 0 or run.end != ("room",):
                    self.same(other.runner.end, None)
            for n in (-1, run.steps + 1, 10 ** 9):
                with self.assertRaises(BadLevel) as caught:
                    debugger.back(n)
                self.same(caught.exception.level, n)
            self.assertEqual((run.picture(), run.report(), run.steps), before)
            self.same(debugger.history(), [])
        return states

    def test_each_number_of_steps(self):
        for many in (0, 1, 5, 14):
            self.check(SOURCE, many)

    def test_after_each_end(self):
        self.check("x = [1]\ny = x", 99)
        self.check("x = [1]\n1 // 0", 99)
        self.check("x = [1]\ny = x\nz = y", 99, fuel=3)
        self.check("x = [1]\ny = x\nz = y", 99, room=2)
        self.check("x = 1", 99, fuel=0)

    def test_the_end_by_the_room_is_a_step(self):
        for run in runs_of("x = [1]\ny = x\nz = y", room=2):
            run.finish()
            other = Debugger(run).back(0).runner
            self.same((other.end, other.picture(), other.trace), (("room",), run.picture(), run.trace))
            other = Debugger(run).back(1).runner
            self.same((other.end, other.steps), (None, run.steps - 1))

    def test_a_new_run(self):
        for run in runs_of("x = take()\nprint(x)", inputs=["a"]):
            run.finish()
            other = Debugger(run).back(run.steps)
            self.same((other.where(), other.runner.lines, other.runner.end), ((), [], None))
            self.same((other.runner.finish(), other.runner.prints), (("done",), ["a"]))
            self.same(run.prints, ["a"])

    def test_breakpoints_and_patience_are_copied(self):
        for run in runs_of(SOURCE):
            debugger = Debugger(run)
            debugger.add_break(2, "f")
            debugger.patience = 9
            debugger.step()
            debugger.go()
            other = debugger.back(1)
            self.same((other.breaks(), other.patience, other.history()), ([(2, "f")], 9, []))
            other.add_break(5)
            other.clear_break(2, "f")
            other.patience = 3
            self.same((debugger.breaks(), debugger.patience, len(debugger.history())), ([(2, "f")], 9, 2))
            debugger.add_break(6)
            self.same(other.breaks(), [(5, None)])

    def test_the_run_goes_on_alike(self):
        for run in runs_of(SOURCE, inputs=[1, 2]):
            for _ in range(12):
                run.advance()
            other = Debugger(run).back(5).runner
            self.same(other.finish(), run.finish())
            self.same(other.report(), run.report())

    def test_a_loaded_run(self):
        run = runs_of(SOURCE)[1]
        for _ in range(10):
            run.advance()
        loaded = load(save(run))
        loaded.advance()
        states = self.states(SOURCE)
        for n in range(12):
            other = Debugger(loaded).back(n).runner
            self.assertEqual((other.picture(), other.trace), states[11 - n])

    def test_between_steps(self):
        run = runs_of(SOURCE)[1]
        for _ in range(8):
            run.advance()
        run.tick()
        run.tick()
        other = Debugger(run).back(0).runner
        self.assertEqual((other.picture(), other.trace, other.steps), self.states(SOURCE)[8] + (8,))


class TestBesideOneAnother(DebuggerCase):

    def test_drawn_moves(self):
        for seed in range(30):
            rng = random.Random(seed)
            program = random_program(rng) if seed % 3 == 0 else read_program(SAMPLES[seed * 2])
            codes = compile_program(program)
            options = {"fuel": rng.choice([300, 40]), "room": rng.choice([10000, 60]), "inputs": [1, 2]}
            debuggers = [Debugger(Reading(program, **options)), Debugger(Machine(codes, schedule=(0, 1), **options))]
            for debugger in debuggers:
                debugger.patience = seed % 7 + 2
            for _ in range(25):
                word = rng.choice(["step", "over", "out", "go", "add", "clear", "back"])
                line, unit = rng.randrange(20), rng.choice([None, "main", "f", "g"])
                if word == "add":
                    self.all_give(debuggers, lambda debugger: debugger.add_break(line, unit))
                elif word == "clear":
                    self.all_give(debuggers, lambda debugger: debugger.clear_break(line, unit))
                elif word == "back":
                    if rng.random() < 0.3:
                        n = rng.randrange(debuggers[0].runner.steps + 1)
                        debuggers = [debugger.back(n) for debugger in debuggers]
                else:
                    self.all_give(debuggers, lambda debugger: getattr(debugger, word)())
                self.all_give(debuggers, lambda debugger: (debugger.where(), debugger.breaks(), debugger.history()))
                self.all_give(debuggers, lambda debugger: (debugger.runner.picture(), debugger.runner.report()))


class TestWatch(DebuggerCase):

    def test_before_within_and_behind(self):
        for run in runs_of("x = 1\ny = 2\nz = 3"):
            watch = Watch(run)
            self.assertIs(watch.runner, run)
            self.same((watch.seen(), watch.closed), ([], False))
            run.advance()
            self.same(watch.seen(), [])
            with watch as held:
                self.assertIs(held, watch)
                self.same((watch.seen(), watch.closed), ([], False))
                run.advance()
                self.same((watch.seen(), watch.closed), ([("main", 1)], False))
                run.advance()
                watch.seen().append(5)
                self.same(watch.seen(), [("main", 1), ("main", 2)])
            self.same((watch.seen(), watch.closed), ([("main", 1), ("main", 2)], True))
            run.advance()
            self.same(watch.seen(), [("main", 1), ("main", 2)])
            watch.seen().append(5)
            self.same(watch.seen(), [("main", 1), ("main", 2)])

    def test_an_error_goes_on(self):
        for run in runs_of("x = 1\ny = 2"):
            with self.assertRaises(KeyError):
                with Watch(run) as watch:
                    run.advance()
                    raise KeyError("a")
            self.same((watch.seen(), watch.closed), ([("main", 0)], True))
            run.finish()
            self.same(watch.seen(), [("main", 0)])

    def test_a_second_block_forgets_the_first(self):
        for run in runs_of("x = 1\ny = 2\nz = 3"):
            watch = Watch(run)
            with watch:
                run.advance()
            run.advance()
            with watch:
                self.same((watch.seen(), watch.closed), ([], False))
                run.advance()
                self.same(watch.seen(), [("main", 2)])
            self.same((watch.seen(), watch.closed), ([("main", 2)], True))

    def test_all_ways_to_go_on(self):
        run = runs_of(SOURCE)[1]
        with Watch(run) as watch:
            Debugger(run).over()
            run.tick()
            next(run.walk())
            run.finish()
            self.same(watch.seen(), run.lines)
        self.same(watch.seen(), run.lines)

    def test_watch_steps(self):
        for run in runs_of("x = 1\ny = 2\nz = 3"):
            watch = Watch(run)
            self.same(watch_steps(watch, 0), None)
            self.same((watch.seen(), watch.closed, run.steps), ([], True, 0))
            self.same(watch_steps(watch, 2), None)
            self.same((watch.seen(), watch.closed), ([("main", 0), ("main", 1)], True))
            self.same(watch_steps(watch, 99), None)
            self.same((watch.seen(), run.end), ([("main", 2), ("main", 3)], ("done",)))
            self.same(watch_steps(watch, 99, forbidden=(0, 1, 2, 3)), None)
            self.same((watch.seen(), watch.closed), ([], True))

    def test_forbidden_lines(self):
        for run in runs_of("x = 1\ny = 2\nz = 3"):
            watch = Watch(run)
            with self.assertRaises(BadLevel) as caught:
                watch_steps(watch, 99, forbidden=(7, 2))
            self.same(caught.exception.level, 2)
            self.same((watch.seen(), watch.closed, run.steps), ([("main", 0), ("main", 1), ("main", 2)], True, 3))
            watch_steps(watch, 99, forbidden=(2,))
            self.same((watch.seen(), run.end), ([("main", 3)], ("done",)))
        for run in runs_of("x = 1"):
            with self.assertRaises(BadLevel) as caught:
                watch_steps(Watch(run), 1, forbidden=(0,))
            self.same((caught.exception.level, run.steps), (0, 1))
            # With fewer steps the line is not reached.
            watch_steps(Watch(run), 0, forbidden=(1,))
        with self.assertRaises(TypeError):
            watch_steps(Watch(run), 1, (1,))

    def test_the_step_at_which_the_room_ends_the_run(self):
        for run in runs_of("x = [1]\ny = x\nz = y", room=2):
            watch = Watch(run)
            self.same(watch_steps(watch, 99, forbidden=(3,)), None)
            self.same((run.end, watch.seen()[-1], len(watch.seen())), (("room",), ("main", 2), 3))
        for run in runs_of("x = [1]\ny = x\nz = y", room=2):
            watch = Watch(run)
            with self.assertRaises(BadLevel) as caught:
                watch_steps(watch, 99, forbidden=(2,))
            self.same((caught.exception.level, run.end, watch.seen()[-1]), (2, ("room",), ("main", 2)))
        # The line at which the fuel is used up is no step.
        for run in runs_of("x = 1\ny = 2", fuel=2):
            watch = Watch(run)
            watch_steps(watch, 99, forbidden=(2,))
            self.same((run.end, watch.seen()), (("steps",), [("main", 0), ("main", 1)]))


if __name__ == "__main__":
    unittest.main()
