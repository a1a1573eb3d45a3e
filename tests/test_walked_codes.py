"""Points 74 to 76, 78, 80, 81 and 90 to 92 over codes of all instructions, in orders that no compiler writes."""

import random
import unittest

from likerun.checker import check_code
from likerun.code import read_code, write_code
from likerun.errors import BadCode, BadPaper
from likerun.machine import Machine
from likerun.optimiser import PASSES, optimise
from likerun.papers import apply_paper, replay
from likerun.saving import load, save
from tests.machines import MachineCase
from tests.second_checker import second_check
from tests.second_papers import all_papers
from tests.walks import walked_codes


class TestWalkedCodes(MachineCase):

    def drawn(self, seeds, many):
        """Return accepted codes of walks, each with what they were drawn by; all are asked of a second checker too."""
        found = []
        for seed in seeds:
            rng = random.Random(seed)
            codes = walked_codes(rng, many)
            try:
                shapes = check_code(codes)
            except BadCode as error:
                with self.assertRaises(BadCode) as caught:
                    second_check(codes)
                self.assertEqual(caught.exception.unit, error.unit)
                continue
            self.assertEqual(second_check(codes), shapes)
            self.assertTrue(read_code(write_code(codes)) == codes)
            found.append((rng, codes))
        self.assertGreater(len(found), len(seeds) // 4)
        return found

    def options(self, rng):
        return {"room": rng.choice([10000, 10000, 40]), "fuel": rng.choice([70, 40]), "depth": rng.choice([24, 3, 5]), "inputs": [1, "a"]}

    def test_what_is_accepted_never_goes_wrong(self):
        words = set()
        for rng, codes in self.drawn(range(70), 90):
            run = Machine(codes, schedule=rng.choice([(), (1,), (2,), (0, 1, 2)]), **self.options(rng))
            many = max(len(code) for code in codes.codes)
            while run.tick():
                self.assertLessEqual(run.ticks, run.steps * many + 2)
                if rng.random() < 0.01:
                    self.assertEqual(run.heap.faults(run.held()), [])
                if run.frames:
                    words.add(run.frames[-1].unit.instructions[run.frames[-1].at][0])
                if rng.random() < 0.002:
                    line = save(run)
                    other = load(line, schedule=(1, 2))
                    self.assertEqual(save(other), line)
                    self.assertEqual(other.picture(), run.picture())
                    other.finish()
                    self.assertLessEqual(other.ticks, (other.steps - run.steps + 40) * many + 2)
        self.assertGreater(len(words), 40)

    def test_saved_runs_go_on(self):
        for rng, codes in self.drawn(range(200, 220), 60):
            options = self.options(rng)
            plain, run = Machine(codes, **options), Machine(codes, **options)
            going = True
            while going:
                for _ in range(rng.randrange(20, 150)):
                    going = plain.tick()
                    self.assertEqual(run.tick(), going)
                run = load(save(run), schedule=rng.choice([(), (1,), (0, 2)]))
                self.assertEqual((run.picture(), run.trace), (plain.picture(), plain.trace))
            self.assertEqual(run.report(), plain.report())

    def test_papers_and_passes(self):
        applied = {}
        for rng, codes in self.drawn(range(400, 430), 70):
            options = self.options(rng)
            result, papers = optimise(codes, [rng.choice(PASSES) for _ in range(rng.randrange(1, 8))])
            self.assertTrue(replay(codes, papers) == result)
            self.compare(Machine(codes, **options), Machine(result, schedule=(0, 1, 2), **options))
            changed = codes
            for _ in range(6):
                found = all_papers(rng, changed)
                if not found:
                    break
                word = rng.choice(sorted({paper[0] for paper in found}))
                try:
                    changed = apply_paper(changed, rng.choice([paper for paper in found if paper[0] == word]))
                    applied[word] = applied.get(word, 0) + 1
                except BadPaper:
                    self.assertEqual(word, "inline")
            self.compare(Machine(codes, **options), Machine(changed, **options))
        self.assertGreater(len(applied), 4)


if __name__ == "__main__":
    unittest.main()
