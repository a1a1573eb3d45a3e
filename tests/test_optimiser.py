"""Point 90: the optimiser; and points 75, 76, 78 and 80 for the codes that it makes."""

import itertools
import random
import unittest

from likerun.checker import check_code
from likerun.code import Compiled, write_code
from likerun.compiler import compile_program
from likerun.errors import BadCode, BadPaper, UnknownPass
from likerun.machine import Machine
from likerun.optimiser import PASSES, optimise
from likerun.papers import apply_paper, replay
from likerun.reading import Reading
from likerun.scopes import read_program
from tests.codes import random_codes
from tests.machines import (
    LINE, POP, PUSH_NONE, RETURN, TRUE, MachineCase, compiled_text, main, number, text, unit)
from tests.programs import random_program
from tests.samples import SAMPLES
from tests.second_papers import all_papers

ONE, TWO, A = number(1), number(2), text("a")
END = (PUSH_NONE, RETURN)
SHRINKING = ("fold", "branch", "tidy", "dead")
SMALL = """def add(a, b):
    c = a + b
    return c
def first(xs):
    x = xs
    y = x
    return y[0] if y else None
def sign(n):
    while n > 9:
        n -= 10
    return not n or -1
def fail(n):
    return n // 0
def none():
    pass
"""
USES = """for x in range(4):
    try:
        print(add(x, 2), first([x]), sign(x), none(), sign(n=3))
        if not x == 2:
            add(x, x)
        fail(x)
    except ZeroError as e:
        print(add(1, sign(5)), e)
    finally:
        add = max if x == 2 else add
def g(n):
    for y in range(n):
        yield add(y, [y][0])
print([first(z) for z in [[], [1], "ab"]], list([k for k in g(3)]), sign(-1), first(()))
fail(none() or 1)
"""


class OptimiserCase(MachineCase):

    def optimised(self, codes, passes):
        """Return the result of passes, after asking what holds for each result."""
        before = write_code(codes)
        given = list(passes)
        result, papers = optimise(codes, given)
        self.assertEqual((write_code(codes), given), (before, list(passes)))
        self.assertIsInstance(result, Compiled)
        self.assertIsInstance(papers, tuple)
        self.assertTrue({paper[0] for paper in papers} <= set(passes))
        self.assertTrue(replay(codes, papers) == result)
        check_code(result)
        return result, papers

    def ended(self, codes, word):
        """No paper of a word is accepted for the codes."""
        for paper in self.tried(codes, word):
            with self.assertRaises(BadPaper, msg=repr(paper)):
                apply_paper(codes, paper)

    def tried(self, codes, word):
        found = []
        for number_of_unit, code in enumerate(codes.codes):
            if word == "dead":
                found += [paper for paper in all_papers(random.Random(number_of_unit), Compiled(codes.codes))
                          if paper[:2] == ("dead", number_of_unit)]
            else:
                found += [(word, number_of_unit, at) for at in range(len(code))]
        return found


class TestPasses(OptimiserCase):

    def test_words(self):
        self.same(PASSES, ("fold", "branch", "thread", "dead", "copies", "tidy", "inline"))

    def test_unknown_words_come_first(self):
        bad = Compiled([main(POP)])
        for passes, word in ((("melt",), "melt"), (("fold", "melt", "burn"), "melt"), (["Fold"], "Fold"), (("",), ""), ((None,), None),
                             (("fold",) * 39 + ("x",), "x")):
            for codes in (bad, compiled_text("x = 1")):
                with self.assertRaises(UnknownPass) as caught:
                    optimise(codes, passes)
                self.same(caught.exception.word, word)

    def test_no_passes(self):
        bad = Compiled([main(POP)])
        for passes in ((), []):
            result, papers = optimise(bad, passes)
            self.assertIs(result, bad)
            self.same(papers, ())
        for word in PASSES:
            with self.assertRaises(BadCode) as caught:
                optimise(bad, (word,))
            self.same(caught.exception.unit, 0)
        with self.assertRaises(BadCode) as caught:
            optimise(Compiled([main(), unit("f", LINE, POP, *END)]), ["tidy"])
        self.same(caught.exception.unit, 1)

    def test_nothing_to_do(self):
        codes = compiled_text("x = y")
        for word in PASSES:
            result, papers = optimise(codes, (word,))
            self.assertTrue(result == codes)
            self.same(papers, ())

    def test_forty_passes(self):
        codes = compiled_text(SMALL + USES)
        self.optimised(codes, (PASSES * 6)[:40])

    def test_a_pass_applies_papers_of_its_word_only(self):
        codes = compiled_text(SMALL + USES)
        for word in PASSES:
            _, papers = self.optimised(codes, (word,))
            self.assertTrue(all(paper[0] == word for paper in papers))
        _, papers = self.optimised(codes, ("inline", "tidy", "thread", "inline", "fold"))
        order = [word for word, _ in itertools.groupby(paper[0] for paper in papers)]
        self.same(order, [word for word in order if word in PASSES])
        self.assertLessEqual(order.index("inline"), order.index("tidy"))

    def test_fold_until_nothing_is_left(self):
        codes = Compiled([main(ONE, TWO, ("binary", "+"), ("unary", "-"), TWO, ("binary", "*"), ("store_global", "x"))])
        result, papers = self.optimised(codes, ("fold",))
        self.same(result.codes[0].instructions[1:3], (("push", ("number", -6)), ("store_global", "x")))
        self.same(len(papers), 3)
        codes = Compiled([main(ONE, ONE, TWO, ("binary", "+"), ("binary", "-"), ("unary", "not"), POP)])
        result, _ = self.optimised(codes, ["fold"])
        self.same(result.codes[0].instructions[1], ("push", ("truth", False)))

    def test_tidy_and_branch_until_nothing_is_left(self):
        codes = Compiled([main(ONE, TWO, ("copy",), POP, POP, POP, "a", ("jump", "@b"), "b", ("jump", "@c"), "c")])
        result, _ = self.optimised(codes, ("tidy",))
        self.same(result.codes[0].instructions, (LINE,) + END)
        codes = Compiled([main(("push", TRUE), ("jump_false", "@b"), ("push", TRUE), ("jump_true", "@b"), ("line", 1), "b")])
        result, _ = self.optimised(codes, ("branch", "dead", "tidy"))
        self.same(result.codes[0].instructions, (LINE,) + END)

    def test_dead_code(self):
        source = "def f():\n    return 1\n    return 2\nwhile True:\n    break\n    x = 1\nelse:\n    y = 2"
        codes = compiled_text(source)
        result, papers = self.optimised(codes, ("dead",))
        self.same(sorted(paper[1] for paper in papers), [0, 1])
        self.assertNotIn(("line", 3), result.codes[1].instructions)
        self.assertNotIn(("line", 6), result.codes[0].instructions)
        # A code in which something would come behind the last instruction is left as it is.
        codes = Compiled([main(), unit("f", LINE, ("leave", 0, 2), ("end_finally", -1, "@b", -1), *END, "b", *END),
                          unit("g", LINE, ONE, ("jump_true", "@a"), *END, ("line", 2), "a", ("leave", 0, 2), "c",
                               ("end_finally", -1, "@d", -1), "d", ("line", 1), ("leave", 0, 2), ("end_finally", -1, "@d", -1))])
        result, papers = self.optimised(codes, ("dead",))
        self.same(papers, ())

    def test_nothing_is_left_after_the_shrinking_passes(self):
        sources = SAMPLES[::6] + [SMALL + USES]
        for seed, source in enumerate(sources):
            rng = random.Random(seed)
            codes = random_codes(rng, compiled_text(source), 12)
            for word in SHRINKING:
                result, _ = self.optimised(codes, (rng.choice(PASSES), word))
                self.ended(result, word)

    def test_thread_and_copies_change_each_instruction_once(self):
        for seed in range(12):
            rng = random.Random(seed)
            codes = random_codes(rng, compile_program(random_program(rng)), 20)
            _, papers = self.optimised(codes, ("thread",))
            self.same(len(set(papers)), len(papers))
            _, papers = self.optimised(codes, ("copies",))
            changed = []
            for _, number_of_unit, at, other in papers:
                changed += [(number_of_unit, at), (number_of_unit, other)] if other == at + 1 else [(number_of_unit, other)]
            self.same(len(set(changed)), len(changed))

    def test_chains_of_jumps(self):
        codes = Compiled([main(A, ("jump_true", "@a"), ("line", 1), "a", ("jump", "@b"), ("line", 2), "b", ("jump", "@c"), ("line", 3),
                               "c")])
        result, papers = self.optimised(codes, ("thread", "thread", "dead"))
        self.assertEqual(result.codes[0].instructions[2][1], len(result.codes[0]) - 2)


class TestInline(OptimiserCase):

    def guards(self, codes, number_of_unit=0):
        return [row[1] for row in codes.codes[number_of_unit].instructions if row[0] == "guard"]

    def test_at_least_one(self):
        for call in ("add(1, 2)", "add(x, \"a\")", "first(x)", "none()", "sign(5)", "print(sign(first(x)))"):
            codes = compiled_text(SMALL + "x = [1]\n" + call)
            result, papers = self.optimised(codes, ("inline",))
            self.assertGreaterEqual(len(papers), 1, call)
        # In a function, with its own names; twice, and after other passes.
        codes = compiled_text(SMALL + "def f(u):\n    return add(u, x)\nf(1)")
        _, papers = self.optimised(codes, ("inline",))
        self.assertIn(6, [paper[1] for paper in papers])
        for passes in (("thread", "inline"), ("fold", "tidy", "dead", "copies", "branch", "inline"), ("inline", "tidy", "inline")):
            _, papers = self.optimised(codes, passes)
            self.assertIn("inline", [paper[0] for paper in papers])

    def test_at_most_eight_in_each_unit(self):
        codes = compiled_text(SMALL + "".join("none()\n" for _ in range(20)) + "def f():\n" + "    none()\n" * 20)
        result, papers = self.optimised(codes, ("inline",))
        self.same(sorted(paper[1] for paper in papers), [0] * 8 + [6] * 8)
        result, papers = self.optimised(codes, ("inline",) * 3)
        self.same((len(self.guards(result)), len(self.guards(result, 6))), (20, 20))
        result, papers = self.optimised(codes, ("inline",) * 5)
        self.same(len(papers), 40)

    def test_none_where_no_paper_is_accepted(self):
        many = "def f():\n" + "    x = 1\n" * 8 + "f()"
        for source in (many, "def f(n):\n    return f(n)\nf(1)", "def f():\n    print(1)\nf()", "def f():\n    yield 1\nf()",
                       "def f(a):\n    return lambda: a\nf(1)", "def f(a):\n    return a\nf(a=1)", "print(1)\nlen([])",
                       "def f(a):\n    for x in a:\n        pass\nf(1)", "def f():\n    try:\n        return 1\n    except Error:\n        pass\nf()"):
            codes = compiled_text(source)
            result, papers = self.optimised(codes, ("inline",))
            self.same(papers, ())
            self.assertTrue(result == codes)

    def test_a_name_of_two_units(self):
        # Which of them is meant cannot be told; with other parameters it can.
        codes = compiled_text("def f():\n    return 1\ndef g():\n    def f():\n        return 2\n    return f\nf()")
        optimise(codes, ("inline",))
        codes = compiled_text("def f(a):\n    return a\ndef g():\n    def f():\n        return 2\n    return f\nf(1)")
        _, papers = self.optimised(codes, ("inline",))
        self.same(len(papers), 1)

    def test_calls_in_calls(self):
        codes = compiled_text(SMALL + "add(add(1, 2), add(3, 4))")
        result, papers = self.optimised(codes, ("inline", "fold", "tidy", "inline"))
        self.assertGreaterEqual(len(self.guards(result)), 2)


class TestRuns(OptimiserCase):
    """Point 80 for optimised codes."""

    def check(self, program, codes, passes, **options):
        result, _ = self.optimised(codes, passes)
        schedule = options.pop("schedule", ())
        self.compare(Reading(program, **options), Machine(result, schedule=schedule, **options))
        return result

    def test_passes_in_all_orders(self):
        program = read_program(SMALL + USES)
        codes = compile_program(program)
        rng = random.Random(1)
        for order in rng.sample(list(itertools.permutations(PASSES)), 12):
            for passes in (order, order + order):
                self.check(program, codes, passes, schedule=rng.choice([(), (2, 1), (0, 2)]))
        for word in PASSES:
            self.check(program, codes, (word, word, word))

    def test_small_options(self):
        program = read_program(SMALL + USES)
        result, _ = optimise(compile_program(program), PASSES + PASSES)
        whole = Reading(program)
        whole.finish()
        for fuel in range(0, whole.steps + 1, 3):
            self.compare(Reading(program, fuel=fuel), Machine(result, fuel=fuel, schedule=(1, 2)))
        for room in list(range(0, 60, 4)) + [10 ** 9]:
            self.compare(Reading(program, room=room), Machine(result, room=room))
        for depth in range(1, 5):
            self.compare(Reading(program, depth=depth), Machine(result, depth=depth))

    def test_samples(self):
        for at, source in enumerate(SAMPLES):
            rng = random.Random(at)
            program = read_program(source)
            passes = [rng.choice(PASSES) for _ in range(rng.randrange(1, 12))] + ["inline"]
            self.check(program, compile_program(program), passes, inputs=[1, "two"], fuel=rng.choice([250, 40]), room=1000,
                       schedule=rng.choice([(), (1,), (2,), (0, 0, 1, 2)]))

    def test_random_programs(self):
        for seed in range(40):
            rng = random.Random(seed)
            program = random_program(rng)
            codes = compile_program(program)
            passes = [rng.choice(PASSES) for _ in range(rng.randrange(1, 8))]
            result, papers = optimise(codes, passes)
            if len(papers) < 60:
                self.assertTrue(replay(codes, papers) == result)
            options = {"room": rng.choice([10000, 300]), "fuel": rng.choice([1000, 50]), "depth": rng.choice([24, 3])}
            run = Machine(result, schedule=rng.choice([(), (1, 2), (0, 2)]), **options)
            self.compare(Reading(program, **options), run)
            many = max(len(code) for code in result.codes)
            self.assertLessEqual(run.ticks, run.steps * many + 2)

    def test_codes_written_by_hand(self):
        for seed in range(25):
            rng = random.Random(seed)
            codes = random_codes(rng, compile_program(random_program(rng)), 25)
            passes = [rng.choice(PASSES) for _ in range(rng.randrange(1, 8))]
            result, papers = optimise(codes, passes)
            if len(papers) < 80:
                self.assertTrue(replay(codes, papers) == result)
            check_code(result)
            options = {"room": rng.choice([10000, 200]), "fuel": rng.choice([300, 60]), "depth": rng.choice([24, 4])}
            self.compare(Machine(codes, **options), Machine(result, schedule=(0, 2), **options))


if __name__ == "__main__":
    unittest.main()
