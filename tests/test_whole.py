"""Points 2, 95 and 96, and the examples of the interface."""

import random
import unittest

from likerun.checker import check_code
from likerun.code import Code, Compiled
from likerun.compiler import compile_program
from likerun.debugger import Debugger
from likerun.errors import BadLevel, BadOption, BadSave, BadScope, BadSyntax, SourceError, UnknownPass
from likerun.machine import Machine
from likerun.optimiser import PASSES, optimise
from likerun.papers import apply_paper
from likerun.reading import Reading
from likerun.saving import load, save
from likerun.scopes import read_program
from likerun.whole import run_text
from tests.machines import MachineCase
from tests.programs import ProgramMaker
from tests.samples import SAMPLES

WAYS = ("plain", "code", "saved")
EXAMPLE = ("def f(n):\n    return 10 // n\ntry:\n    print(f(5))\n    print(f(0))\nexcept ZeroError as e:\n    print(e)")


class TestRunText(MachineCase):

    def all_ways(self, source, passes=(), schedule=(), **options):
        """Return the report of a text, which is the same in all ways."""
        wanted = run_text(source, **options)
        for way in WAYS:
            for chosen in ((), passes):
                with self.subTest(text=source, way=way, passes=chosen):
                    self.same(run_text(source, way=way, passes=chosen, schedule=schedule, **options), wanted)
        return wanted

    def test_the_example(self):
        lines = tuple(("main", line) for line in (0, 1, 4)) + (("f", 1), ("f", 2), ("main", 5), ("f", 1), ("f", 2), ("main", 6),
                                                               ("main", 7))
        self.same(self.all_ways(EXAMPLE, passes=("fold", "inline")), (("2", "ZeroError()"), ("done",), lines))

    def test_plain_is_the_way_that_is_left_out(self):
        self.same(run_text("print(1)"), (("1",), ("done",), (("main", 0), ("main", 1))))
        with self.assertRaises(TypeError):
            run_text("print(1)", "plain")

    def test_an_unknown_way_comes_first(self):
        for way in ("machine", "", "Plain", None):
            with self.assertRaises(BadOption) as caught:
                run_text("1 = x", way=way, passes=("melt",), room=-1, schedule=(9,))
            self.same(caught.exception.option, "way")

    def test_the_order_of_errors(self):
        for way in WAYS:
            with self.assertRaises(BadSyntax) as caught:
                run_text("1 = x", way=way, passes=("melt",), room=-1, schedule=(9,))
            self.same((caught.exception.line, caught.exception.column), (1, 3))
            with self.assertRaises(BadScope):
                run_text("return", way=way, passes=("melt",), room=-1)
        for way in WAYS[1:]:
            with self.assertRaises(UnknownPass) as caught:
                run_text("x = 1", way=way, passes=("fold", "melt"), room=-1, schedule=(9,))
            self.same(caught.exception.word, "melt")
            with self.assertRaises(BadOption) as caught:
                run_text("x = 1", way=way, passes=["fold"], inputs=None, room=-1, schedule=(9,))
            self.same(caught.exception.option, "inputs")
            with self.assertRaises(BadOption) as caught:
                run_text("x = 1", way=way, schedule=(9,))
            self.same(caught.exception.option, "schedule")
        # For the plain reading passes and schedule are not checked.
        self.same(run_text("x = 1", passes=("melt",), schedule=(9,))[1], ("done",))
        with self.assertRaises(BadOption) as caught:
            run_text("x = 1", passes=("melt",), depth=0, schedule=(9,))
        self.same(caught.exception.option, "depth")

    def test_options(self):
        source = "x = [take()]\nprint(x)\nprint(take())\ny = x"
        self.same(self.all_ways(source, inputs=["a", 1])[0], ('["a"]', "1"))
        self.same(self.all_ways(source, inputs=("a",))[1][0], "error")
        self.same(self.all_ways(source, inputs=["a", 1], fuel=3)[1:], (("steps",), (("main", 0), ("main", 1), ("main", 2))))
        self.same(self.all_ways(source, inputs=["a", 1], room=2)[1], ("room",))
        self.same(self.all_ways("def f(n):\n    f(n)\nf(1)", depth=3)[1][1][0][0], "DepthError")
        for word, value in (("room", -1), ("fuel", 100001), ("depth", 41), ("inputs", [None])):
            for way in WAYS:
                with self.assertRaises(BadOption) as caught:
                    run_text("x = 1", way=way, **{word: value})
                self.same(caught.exception.option, word)

    def test_the_report_is_made_of_tuples(self):
        for way in WAYS:
            prints, end, lines = run_text(EXAMPLE, way=way)
            self.assertTrue(isinstance(prints, tuple) and isinstance(end, tuple) and isinstance(lines, tuple))

    def test_samples(self):
        for at, source in enumerate(SAMPLES):
            rng = random.Random(at)
            self.all_ways(source, passes=[rng.choice(PASSES) for _ in range(4)], schedule=rng.choice([(), (1,), (2, 0), [0, 1]]),
                          inputs=[1, "b"], fuel=rng.choice([30, 120]), room=rng.choice([40, 5000]), depth=rng.choice([3, 24]))

    def test_random_programs(self):
        done = 0
        for seed in range(12):
            rng = random.Random(seed)
            try:
                read_program(source := ProgramMaker(rng).text())
            except SourceError:
                continue
            done += 1
            self.all_ways(source, passes=[rng.choice(PASSES) for _ in range(3)], schedule=rng.choice([(), (1, 2)]), fuel=150)
        self.assertGreater(done, 6)

    def test_saved_at_any_ticks(self):
        """The main promise with other places than each 25 ticks, beside collections by hand and going back."""
        for seed, source in enumerate(SAMPLES[::9]):
            rng = random.Random(seed)
            program = read_program(source)
            codes, _ = optimise(compile_program(program), [rng.choice(PASSES) for _ in range(5)])
            run = Machine(codes, fuel=100, room=800)
            while run.end is None:
                for _ in range(rng.randrange(1, 40)):
                    run.tick()
                if rng.random() < 0.3:
                    run.collect(full=rng.random() < 0.5)
                if rng.random() < 0.6:
                    run = load(save(run), schedule=rng.choice([(), (1,), (2,)]))
                if rng.random() < 0.2 and run.end is None and run.steps > 3:
                    run = Debugger(run).back(rng.randrange(3)).runner
            wanted = Reading(program, fuel=100, room=800)
            wanted.finish()
            self.same(run.report(), wanted.report())
            self.same(run.picture(), wanted.picture())


class TestDeepValues(MachineCase):
    """Point 96: lists nested many thousand deep by a run."""

    def test_in_every_way_of_running(self):
        # Some hundred, because each step measures all of them.
        source = "x = [0]\nwhile True:\n    x = [x]\n    y = [x] == [[x]]\n"
        for fuel, ways in ((2500, WAYS[:2]), (500, WAYS)):
            reports = [run_text(source, way=way, room=10 ** 9, fuel=fuel) for way in ways]
            self.same(reports[0][1], ("steps",))
            for report in reports[1:]:
                self.assertTrue(report == reports[0])

    def test_saved_and_loaded(self):
        rows = (("line", 0), ("make_list", 0), ("store_global", "x"), ("load_global", "x"))
        rows += (("make_list", 1),) * 20000 + (("copy",), ("store_global", "x"), ("make_list", 1), ("store_global", "y"), ("line", 1),
                                               ("load_global", "x"), ("load_global", "y"), ("compare", "=="), ("store_global", "z"),
                                               ("push", ("none",)), ("return",))
        run = Machine(Compiled([Code("main", 0, rows)]), schedule=(0,) * 5000 + (1, 2), room=10 ** 9)
        run.advance()
        run.advance()
        run = load(save(run), schedule=(0, 0, 1, 2))
        self.same(len(run.heap), 20002)
        self.same(run.room_used(), 3 * 20002 - 1)
        self.assertIn("#20002 list", run.picture())
        one, other = run.bindings["x"], run.bindings["y"]
        self.same(len(run.heap.graph([one, other])[1]), 20002)
        run.collect()
        run.collect(full=True)
        self.same(run.heap.faults(run.held()), [])
        self.same(run.finish()[1][0][0], "SizeError")
        self.same(load(save(run)).report(), run.report())

    def test_errors_and_generators_nested_deep(self):
        source = "e = None\nfor i in range(200):\n    try:\n        raise Error(i) from e\n    except Error as f:\n        e = f\nraise e"
        reports = [run_text(source, way=way, fuel=5000, room=10 ** 9) for way in WAYS]
        self.same(len(reports[0][1][1]), 200)
        self.assertTrue(reports[0] == reports[1] == reports[2])
        source = ("def g(n):\n    if n:\n        for x in g(n - 1):\n            yield x\n    yield n\nfor x in g(38):\n    pass")
        reports = [run_text(source, way=way, fuel=4000, depth=40) for way in WAYS]
        self.same(reports[0][1], ("done",))
        self.assertTrue(reports[0] == reports[1] == reports[2])


class TestExamples(MachineCase):

    def test_checker(self):
        self.same(check_code(Compiled([Code("main", 0, (("line", 0), ("push", ("none",)), ("return",)))])),
                  ((((), None), ((), None), (('value',), None)),))

    def test_papers(self):
        rows = (("line", 0), ("push", ("number", 1)), ("push", ("number", 2)), ("binary", "+"), ("return",))
        changed = apply_paper(Compiled([Code("main", 0, rows)]), ("fold", 0, 1))
        self.same(changed.codes[0].instructions, (('line', 0), ('push', ('number', 3)), ('return',)))

    def test_optimiser(self):
        with self.assertRaises(UnknownPass) as caught:
            optimise(Compiled([Code("main", 0, (("line", 0), ("push", ("none",)), ("return",)))]), ("fold", "melt"))
        self.same(caught.exception.word, "melt")

    def test_saving(self):
        with self.assertRaises(BadSave):
            load("(1 2)")

    def test_debugger(self):
        debugger = Debugger(Reading(read_program("x = 1\ny = 2")))
        self.same((debugger.step(), debugger.step()), ((("main", 0),), (("main", 1),)))

    def test_whole(self):
        self.same(run_text(EXAMPLE, way="code", passes=("fold", "inline")), (
            ('2', 'ZeroError()'), ('done',),
            (('main', 0), ('main', 1), ('main', 4), ('f', 1), ('f', 2), ('main', 5), ('f', 1), ('f', 2), ('main', 6), ('main', 7))))

    def test_errors_have_their_attributes(self):
        self.same(BadLevel(3).level, 3)
        self.same(str(BadSave("a")), "a")


if __name__ == "__main__":
    unittest.main()
