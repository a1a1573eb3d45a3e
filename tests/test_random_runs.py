"""Part 6 against a second plain reading, which leans on Python's own calls, errors and generators."""

import random
import sys
import unittest

from likerun.reading import Reading
from tests.plain import Plain
from tests.programs import random_program


class TestRandomRuns(unittest.TestCase):

    def setUp(self):
        self.limit = sys.getrecursionlimit()
        # The second reading calls itself for each frame and each level of an expression.
        sys.setrecursionlimit(20000)

    def tearDown(self):
        sys.setrecursionlimit(self.limit)

    def compare(self, program, options):
        """The two runs are the same at each step."""
        plain = Plain(program, **options)
        run = Reading(program, **options)
        at = 0
        while run.advance() or run.steps > at:
            if run.steps == at:
                break
            self.assertEqual(run.picture(), plain.pictures[at])
            self.assertEqual(run.trace, plain.traces[at])
            at += 1
        self.assertEqual(run.lines, plain.lines)
        self.assertEqual(run.prints, plain.prints)
        self.assertEqual(run.end, plain.end)
        return run.end[0]

    def test_random_programs(self):
        counts = {"done": 0, "error": 0, "steps": 0, "room": 0}
        for seed in range(500):
            rng = random.Random(seed)
            program = random_program(rng)
            options = {
                "inputs": [1, "two", 3][:rng.randrange(4)], "room": rng.choice([10000, 10000, 300, 100]),
                "fuel": rng.choice([2000, 2000, 500, 50]), "depth": rng.choice([24, 24, 3, 6, 40])}
            with self.subTest(seed=seed):
                counts[self.compare(program, options)] += 1
        for word in counts:
            self.assertGreater(counts[word], 10, word)


if __name__ == "__main__":
    unittest.main()
