"""Points 2, 73 and 80: the compiled program beside the plain reading, step by step."""

import random
import unittest

from likerun.checker import check_code
from likerun.code import Compiled
from likerun.compiler import compile_program
from likerun.machine import Machine
from likerun.reading import Reading
from likerun.scopes import read_program
from tests.machines import MachineCase
from tests.programs import random_program
from tests.samples import SAMPLES

SCHEDULES = ((), (1,), (2,), (0, 1), (1, 1, 2), (0, 0, 0, 2, 1))


class TestCodes(MachineCase):

    def test_one_code_for_each_unit(self):
        for source in SAMPLES:
            program = read_program(source)
            codes = compile_program(program)
            self.assertIsInstance(codes, Compiled)
            self.same(len(codes), len(program.units))
            for code, unit in zip(codes.codes, program.units):
                self.same(code.instructions[0], ("line", unit.line))
                for word in ("name", "line", "parameters", "defaults", "slots", "cells", "free", "yields"):
                    self.same(getattr(code, word), getattr(unit, word))
                self.same(code.extra, 0)
                words = {row[0] for row in code.instructions}
                self.assertFalse(words & {"guard", "enter_inline", "leave_inline"})
            self.same(len(check_code(codes)), len(codes))

    def test_equal_programs_give_equal_results(self):
        for source in SAMPLES:
            self.assertTrue(compile_program(read_program(source)) == compile_program(read_program(source + "\n# end\n")))
        self.assertFalse(compile_program(read_program("x = 1")) == compile_program(read_program("x = 2")))
        self.assertFalse(compile_program(read_program("x = 1")) == compile_program(read_program("\nx = 1")))

    def test_the_program_is_not_changed(self):
        program = read_program(SAMPLES[-1])
        before = (program.tree, [vars(unit).copy() for unit in program.units])
        compile_program(program)
        self.assertEqual((program.tree, [vars(unit) for unit in program.units]), before)

    def test_programs_at_their_limits(self):
        deep = ""
        for at in range(10):
            deep += "    " * at + "for x in [" + str(at) + "]:\n"
        deep += "    " * 10 + "break\n"
        branches = "x = 20\nif x == 0:\n    pass\n" + "".join(
            "elif x == {}:\n    print({})\n".format(at, at) for at in range(1, 21))
        nested = "print(" + "[" * 18 + "5" + "]" * 18 + ")\nprint(" + "-" * 18 + "5)"
        chain = "x = (1" + "\n+ 1" * 55 + ")\nprint(x, 0" + "\n< 1" * 40 + ")"
        tries = ""
        for at in range(9):
            tries += "    " * at + "try:\n"
        tries += "    " * 9 + "1 // 0\n"
        for at in range(8, -1, -1):
            tries += "    " * at + "finally:\n" + "    " * (at + 1) + "print({})\n".format(at)
        for source in (deep, branches, nested, chain, tries, "x = " + "9" * 40 + "\nprint(-x)", "", "pass"):
            self.same_runs(source)


class TestRuns(MachineCase):

    def test_samples(self):
        ends = {}
        for at, source in enumerate(SAMPLES):
            run = self.same_runs(source, inputs=[1, "two"], schedule=SCHEDULES[at % 6], fuel=400, room=1000)
            ends[run.end[0]] = ends.get(run.end[0], 0) + 1
        self.assertGreater(ends["done"], 25)
        self.assertGreater(ends["error"], 40)
        self.assertGreater(ends["steps"], 0)
        self.assertGreater(ends["room"], 0)

    def test_samples_with_small_options(self):
        for at, source in enumerate(SAMPLES):
            rng = random.Random(at)
            for _ in range(3):
                options = {"inputs": [[], [1], ["a", 2]][rng.randrange(3)], "room": rng.choice([0, 5, 15, 40, 200, 10 ** 9]),
                           "fuel": rng.choice([0, 1, 5, 13, 40, 120]), "depth": rng.choice([1, 2, 3, 5, 40]),
                           "schedule": rng.choice(SCHEDULES)}
                self.same_runs(source, **options)

    def test_every_fuel(self):
        for source in SAMPLES[50:60]:
            program = read_program(source)
            codes = compile_program(program)
            whole = Reading(program)
            whole.finish()
            for fuel in range(whole.steps + 1):
                one, other = Reading(program, fuel=fuel), Machine(codes, fuel=fuel)
                one.finish()
                other.finish()
                self.assertEqual(one.report(), other.report())
                self.assertEqual(one.picture(), other.picture())

    def test_random_programs(self):
        counts = {"done": 0, "error": 0, "steps": 0, "room": 0}
        for seed in range(130):
            rng = random.Random(seed)
            program = random_program(rng)
            options = {
                "inputs": [1, "two", 3][:rng.randrange(4)], "room": rng.choice([10000, 10000, 300, 100]),
                "fuel": rng.choice([2000, 2000, 500, 50]), "depth": rng.choice([24, 24, 3, 6, 40])}
            run = Machine(compile_program(program), schedule=rng.choice(SCHEDULES), **options)
            with self.subTest(seed=seed):
                self.compare(Reading(program, **options), run)
            counts[run.end[0]] += 1
        for word in counts:
            self.assertGreater(counts[word], 5, word)


if __name__ == "__main__":
    unittest.main()
