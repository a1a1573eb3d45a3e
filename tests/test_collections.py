"""Point 78: what a run holds, and collections between its ticks."""

import random
import unittest

from likerun.compiler import compile_program
from likerun.machine import Machine
from tests.machines import MachineCase, compiled_text, machine, number, text, unit
from tests.programs import random_program

A = text("a")
CALL = ("call", 0, ())


def run_of(source, **options):
    return Machine(compiled_text(source), **options)


def told(run):
    """Return what a run holds but for the names that are not bound."""
    return sorted(entry for entry in run.held() if entry != ("unset",))


class TestSchedules(MachineCase):

    def spaces(self, schedule, ticks):
        """Return the young and old objects behind each tick of a run that keeps one more list in every second tick."""
        rows = []
        for at in range(ticks):
            rows += [("make_list", 0), ("store_global", "x" + str(at))]
        run = machine(*rows, options={"schedule": schedule})
        found = []
        for _ in range(ticks):
            run.tick()
            found.append((run.heap.young, run.heap.old))
        return found

    def test_which_collection_before_which_tick(self):
        # The second tick executes the line, the third one makes the first list.
        none = [(0, 0), (0, 0), (1, 0), (1, 0), (2, 0), (2, 0), (3, 0), (3, 0), (4, 0)]
        self.same(self.spaces((), 9), none)
        self.same(self.spaces((0,), 9), none)
        self.same(self.spaces((0, 0, 0), 9), none)
        self.same(self.spaces((2,), 9), [(0, 0), (0, 0), (1, 0), (0, 1), (1, 1), (0, 2), (1, 2), (0, 3), (1, 3)])
        self.same(self.spaces((1,), 9), [(0, 0), (0, 0), (1, 0), (1, 0), (1, 1), (1, 1), (1, 2), (1, 2), (1, 3)])
        # With T ticks before it, the entry T mod 3 counts.
        self.same(self.spaces((0, 0, 2), 9), [(0, 0), (0, 0), (1, 0), (1, 0), (2, 0), (0, 2), (1, 2), (1, 2), (1, 3)])
        self.same(self.spaces((2, 0, 0), 9), [(0, 0), (0, 0), (1, 0), (0, 1), (1, 1), (1, 1), (1, 2), (1, 2), (2, 2)])
        self.same(self.spaces((0, 1, 0, 2), 9), [(0, 0), (0, 0), (1, 0), (0, 1), (1, 1), (1, 1), (2, 1), (0, 3), (1, 3)])

    def test_nothing_is_collected_after_the_end(self):
        run = machine(("make_list", 0), ("pop",), options={"schedule": (0, 0, 0, 0, 0, 0, 2)})
        run.finish()
        self.same((run.ticks, len(run.heap)), (6, 1))
        self.same((run.tick(), len(run.heap)), (False, 1))

    def test_runs_with_schedules(self):
        schedules = ((), (1,), (2,), (0, 1), (1, 2), (0, 0, 1, 0, 2), [2, 2, 1], (1,) * 7 + (2,))
        for seed in range(24):
            rng = random.Random(seed)
            codes = compile_program(random_program(rng))
            options = {"room": rng.choice([10000, 200]), "fuel": rng.choice([300, 60]), "depth": rng.choice([24, 4])}
            self.compare(Machine(codes, **options), Machine(codes, schedule=schedules[seed % 8], **options))


class TestCollections(MachineCase):

    def test_between_any_two_ticks(self):
        for seed in range(12):
            rng = random.Random(seed)
            codes = compile_program(random_program(rng))
            plain = Machine(codes, fuel=60)
            run = Machine(codes, fuel=60, schedule=rng.choice([(), (0, 1), (2, 0, 1)]))
            going = True
            while going:
                if rng.random() < 0.5:
                    full = rng.random() < 0.5
                    before = run.heap.graph(run.held())
                    state = (run.picture(), run.room_used(), run.end, run.trace, run.ticks)
                    self.same(run.collect(full), None)
                    self.assertEqual((run.picture(), run.room_used(), run.end, run.trace, run.ticks), state)
                    self.assertEqual(run.heap.graph(run.held()), before)
                    if full:
                        self.assertEqual(len(run.heap), len(run.heap.reach(run.held())))
                        self.assertEqual(run.heap.young, 0)
                going = run.tick()
                self.assertEqual(plain.tick(), going)
                self.assertEqual(run.heap.faults(run.held()), [])
            self.assertEqual(run.report(), plain.report())
            run.collect()
            run.collect(full=True)
            self.assertEqual(run.picture(), plain.picture())
            self.assertEqual(len(run.heap), len(run.heap.reach(run.held())))

    def test_before_the_first_tick_and_after_the_end(self):
        run = run_of("x = [1]\ny = [2]\ny = 0")
        self.same((run.collect(), run.collect(True), run.held(), len(run.heap)), (None, None, [], 0))
        run.finish()
        self.same((len(run.heap), run.heap.young), (2, 2))
        run.collect()
        self.same((len(run.heap), run.picture()), (1, "globals\n  x = #1\n  y = 0\nobjects\n  #1 list 1"))
        run.collect(full=True)
        self.same((len(run.heap), run.heap.old, run.end), (1, 1, ("done",)))

    def test_the_default_is_a_young_one(self):
        run = run_of("x = [1]")
        run.finish()
        run.collect()
        self.same((run.heap.young, run.heap.old), (1, 0))
        run.collect(full=False)
        self.same((run.heap.young, run.heap.old), (0, 1))
        with self.assertRaises(TypeError):
            run.collect(True, False)


class TestHeld(MachineCase):

    def stepped(self, source, many, **options):
        """Return a run after so many steps, with full collections in it."""
        run = run_of(source, schedule=(2,), **options)
        for _ in range(many):
            self.assertTrue(run.advance())
        run.collect(full=True)
        return run

    def test_only_global_names_at_the_first_steps_of_statements(self):
        source = ("x = [1, [2]]\nfor y in x:\n    pass\nwhile x:\n    x = 0\ntry:\n    z = {1: [x]}\n    z[2]\nexcept Error as e:\n"
                  "    pass\nclass A:\n    def enter(self):\n        return [1]\n    def leave(self, e):\n        return [2]\n"
                  "with A() as a:\n    del a\nf = lambda: [3]\nf()\n(4, 5)\n")
        run = run_of(source)
        firsts = [0, 1, 2, 4, 7, 11, 16, 18, 19, 20]
        seen = []
        while run.advance():
            unit_name, line = run.lines[-1]
            if unit_name == "main" and line in firsts and line not in seen and len(run.trace) == 1:
                seen.append(line)
                self.same(told(run), sorted(run.bindings.values()))
        self.same(seen, firsts)

    def test_a_loop_holds_its_iterator(self):
        run = self.stepped("x = [7, 8]\nfor y in x:\n    pass\nz = 1", 3)
        # Step 0, the assignment, the first step of the loop.
        self.same(told(run), [("ref", 0)])
        for at in range(4):
            run.advance()
            kinds = sorted(run.heap.kind_of(entry) for entry in told(run) if entry[0] == "ref")
            self.same(kinds, ["iterator", "list"])
        run.advance()
        self.same(run.lines[-1], ("main", 2))
        run.advance()
        self.same((run.lines[-1], [entry[0] for entry in told(run)]), (("main", 4), ["number", "ref"]))

    def test_a_with_holds_its_object_and_what_is_pending(self):
        source = ("class A:\n    def enter(self):\n        return 1\n    def leave(self, e):\n        return True\n"
                  "with A():\n    {}\n    pass\n")
        for body, wanted in (("pass", ("pending", 0, ("none",))), ("[] + 1", "error")):
            run = run_of(source.replace("{}", body) + "x = 1", schedule=(2,))
            while run.lines[-2:-1] != [("main", 7)]:
                run.advance()
            if wanted == "error":
                wanted = ("pending", 4, ("handled", told(run)[0][2][1]))
                self.same(run.lines[-1], ("main", 6))
            else:
                run.advance()
            entries = told(run)
            self.assertIn(wanted, entries)
            kinds = [run.heap.kind_of(entry) for entry in entries if entry[0] == "ref"]
            self.same(sorted(kinds), ["class", "instance"])
            run.finish()
            self.same(run.end, ("done",))

    def test_a_pending_return(self):
        run = self.stepped("def f():\n    try:\n        return [1]\n    finally:\n        x = 5\nf()", 6)
        self.same(run.trace, (("main", 6), ("f", 5)))
        self.same([entry[:2] for entry in told(run) if entry[0] == "pending"], [("pending", 1)])
        self.same(len(run.heap), 2)

    def test_what_a_call_has_taken_is_not_held(self):
        run = self.stepped("def f(a):\n    a = 0\n    return 1\nf([1, [2]])", 6)
        self.same((run.trace, len(run.heap)), ((("main", 4), ("f", 3)), 1))
        self.same([run.heap.kind_of(entry) for entry in told(run) if entry[0] == "ref"], ["function"])
        # The function itself is not held by its call.
        run = self.stepped("(lambda: [1] + g)()", 3)
        self.same((run.trace, run.held(), len(run.heap)), ((("main", 1), ("lambda", 1)), [], 0))

    def test_what_belonged_to_a_frame_that_has_ended_is_not_held(self):
        run = self.stepped("def f(n):\n    x = [n]\n    if n:\n        f(n - 1)\n    y = [x]\n    1 // n\ntry:\n    f(2)\n"
                           "except Error:\n    pass\nz = 1", 3)
        while run.lines[-1] != ("main", 9):
            run.advance()
        run.collect(full=True)
        # The function and the error that is being handled.
        self.same((len(run.heap), [entry[0] for entry in told(run)]), (2, ["handled", "ref"]))

    def test_the_instance_of_an_init(self):
        run = self.stepped("class A:\n    def init(self):\n        del self\n        x = 1\nA()", 6)
        self.same((run.trace, [run.heap.kind_of(entry) for entry in told(run)]),
                  ((("main", 5), ("init", 4)), ["class", "instance"]))
        run = self.stepped("class A:\n    def init(self):\n        x = 1\nA()", 4)
        self.same([run.heap.kind_of(entry) for entry in told(run)].count("instance"), 2)

    def test_the_default_of_a_next_and_the_generator(self):
        run = self.stepped("def g():\n    x = 1\n    yield x\nnext(g(), [7])", 4)
        self.same(run.trace, (("main", 4), ("g", 1)))
        kinds = sorted(run.heap.kind_of(entry) for entry in told(run))
        self.same(kinds, ["function", "generator", "list"])
        run.finish()
        run.collect(full=True)
        self.same(len(run.heap), 1)

    def test_a_waiting_generator_holds_what_its_frame_held(self):
        source = ("def g(a):\n    for b in a:\n        try:\n            1 // 0\n        except Error:\n            yield [b]\n"
                  "i = g([1, [2]])\nnext(i)\nx = 1")
        run = run_of(source, schedule=(2,))
        while run.lines[-1:] != [("main", 9)]:
            run.advance()
        run.collect(full=True)
        self.same(len(told(run)), 2)
        kinds = sorted(run.heap.kind_of(("ref", address)) for address in run.heap.reach(run.held()))
        # The error that is being handled, the iterator of the loop, and the names.
        self.same(kinds, ["function", "generator", "instance", "iterator", "list", "list"])
        self.same(len(run.heap), 6)

    def test_the_list_does_not_depend_on_addresses(self):
        for seed in range(6):
            codes = compile_program(random_program(random.Random(seed)))
            one, other = Machine(codes, fuel=80), Machine(codes, fuel=80, schedule=(1, 2, 0))
            while one.tick():
                other.tick()
                self.assertEqual(one.heap.graph(one.held()), other.heap.graph(other.held()))

    def test_entries_on_the_stack(self):
        # A cell, an iterator, a pending value and an error are held as what a memory knows.
        inner = unit("f", ("line", 2), ("push_cell", 0), A, ("get_iterator",), ("leave", 2, 0), "at", ("line", 3), ("raise", 0),
                     "end", ("line", 4), ("cut", 0), ("push", ("none",)), ("return",), slots=("a",), cells=("a",),
                     handlers=(("@at", "@end", "@end", 3),))
        run = machine(("make_function", 1), CALL, units=[inner], options={"schedule": (2, 1)})
        for _ in range(4):
            run.advance()
        run.collect(full=True)
        self.same(sorted(entry[0] for entry in told(run)), ["handled", "pending", "ref", "ref", "ref"])
        self.same(run.heap.faults(run.held()), [])
        self.same((len(run.heap), run.finish()), (3, ("done",)))

    def test_a_new_list(self):
        run = machine(number(1), ("store_global", "x"))
        run.finish()
        held = run.held()
        held.append(5)
        self.same(run.held(), [("number", 1)])


if __name__ == "__main__":
    unittest.main()
