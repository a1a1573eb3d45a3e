"""Points 91 and 92: runs as texts, and machines that go on with them."""

import random
import unittest

from likerun.compiler import compile_program
from likerun.datum import read_datum, write_datum
from likerun.errors import BadOption, BadSave
from likerun.machine import Machine
from likerun.optimiser import PASSES, optimise
from likerun.saving import load, save
from tests.codes import random_codes
from tests.machines import LINE, POP, PUSH_NONE, RETURN, MachineCase, compiled_text, machine, number, text, unit
from tests.programs import random_program
from tests.samples import SAMPLES

# The parts of a saved run.
CODES, OPTIONS, TAKEN, PRINTS, LINES, END, GLOBALS, FRAMES, OBJECTS = range(9)
# The parts of a frame.
UNIT, AT, ROW, SLOTS, CELLS, STACK, OWNER, MANNER, INLINED = range(9)
NONE = ("none",)
UNSET = ("unset",)
BUSY = """class E(Error):
    code = 1
    def told(self):
        return self.message
class W:
    def init(self, n):
        self.n = n
        self.kept = [n]
    def enter(self):
        return self.kept
    def leave(self, error):
        self.kept.append(error)
        return self.n
def gen(n, step=1):
    k = n
    def add(m):
        nonlocal k
        k += m
        return k
    for i in [1, 2, 3]:
        try:
            got = yield (i, add(step))
        except CloseError:
            print("closed")
            raise
        finally:
            add(1)
def small(a, b):
    c = a + b
    return c
d = {"a": [1], (1, 2): None, 3: len}
d["d"] = d
g, h, new = gen(5), gen(6), gen(7)
next(g)
next(h, [0])
h.close()
it = iter(d)
next(it)
bound = W(0).enter
append = d["a"].append
f = lambda x, y=[2]: gen
with W(True) as kept:
    for n in gen(2):
        print(small(n[1], 1))
        try:
            raise E(take()) from KeyError(n)
        except E as e:
            last = e
            for z in gen(1):
                small(z, 0)
        finally:
            append(n)
print(kept, last.cause, next(g, None))
"""


def run_of(source, **options):
    return Machine(compiled_text(source), **options)


def ticked(run, many):
    for _ in range(many):
        run.tick()
    return run


class TestTexts(MachineCase):

    def test_a_note_of_one_line(self):
        run = run_of(BUSY, inputs=["a\n", 2])
        while run.tick():
            if run.ticks % 40 == 0:
                line = save(run)
                self.assertIsInstance(line, str)
                self.assertNotIn("\n", line)
                self.same(write_datum(read_datum(line)), line)

    def test_the_machine_is_unchanged(self):
        one, other = run_of(BUSY, inputs=["a", 2], schedule=(0, 1, 2)), run_of(BUSY, inputs=["a", 2], schedule=(0, 1, 2))
        going = True
        while going:
            if one.ticks % 7 == 0:
                before = (one.heap.young, one.heap.old, one.heap.remembered, one.held(), one.ticks)
                save(one)
                self.assertEqual((one.heap.young, one.heap.old, one.heap.remembered, one.held(), one.ticks), before)
            going = one.tick()
            self.assertEqual(other.tick(), going)
            self.assertEqual(one.held(), other.held())
        self.assertEqual(one.report(), other.report())

    def test_it_depends_on_the_run_alone(self):
        one = run_of(BUSY, inputs=["a", 2])
        others = [run_of(BUSY, inputs=("a", 2), schedule=schedule) for schedule in ((1,), (2,), (0, 1, 1, 2))]
        others.append(run_of(BUSY, inputs=("a", 2)))
        going = True
        while going:
            line = save(one)
            for other in others:
                self.assertEqual(save(other), line)
            if one.ticks % 9 == 0:
                others[-1] = load(save(load(line, schedule=(2,))), schedule=(1, 0))
                others[0].collect(full=one.ticks % 2 == 0)
                self.assertEqual(save(others[0]), line)
            going = one.tick()
            for other in others:
                other.tick()

    def test_other_runs_have_other_texts(self):
        base = run_of("x = [1]\nprint(x)")
        base.finish()
        for other in (run_of("x = [2]\nprint(x)"), run_of("x = [1]\nprint(x)", fuel=99), run_of("x = [1]\nprint(x)", room=99),
                      run_of("x = [1]\nprint(x)", depth=9), run_of("x = [1]\nprint(x)", inputs=[1]), run_of("y = [1]\nprint(y)")):
            other.finish()
            self.assertNotEqual(save(other), save(base))
        self.assertEqual(save(load(save(base))), save(base))


class TestGoingOn(MachineCase):

    def check(self, codes, rng, every=(1, 3, 17), **options):
        """A run that is saved and loaded between is the same run, tick by tick."""
        plain = Machine(codes, **options)
        run = Machine(codes, schedule=rng.choice([(), (1,), (0, 2)]), **options)
        going = True
        while going:
            for _ in range(rng.choice(every)):
                going = plain.tick()
                self.assertEqual(run.tick(), going)
            line = save(run)
            before = (run.picture(), run.trace, run.report(), run.room_used())
            run = load(line, schedule=rng.choice([(), (1,), (2, 0), [0, 1, 2]]))
            self.assertEqual((run.picture(), run.trace, run.report(), run.room_used()), before)
            self.assertEqual((run.ticks, run.heap.old, run.heap.young), (0, 0, len(run.heap)))
            self.assertEqual(len(run.heap), len(run.heap.reach(run.held())))
            self.assertEqual(run.heap.faults(run.held()), [])
            self.assertEqual(save(run), line)
            self.assertEqual((plain.picture(), plain.trace, plain.report()), (run.picture(), run.trace, run.report()))
        self.assertEqual((run.tick(), run.advance(), run.ticks), (False, False, 0))
        return run

    def test_between_any_two_ticks(self):
        for passes in ((), ("inline", "fold", "copies")):
            codes, _ = optimise(compiled_text(BUSY), passes)
            run = self.check(codes, random.Random(1), every=(1, 1, 2), inputs=["a", 2])
            # There are two inputs for three takes, but the with statement drops the error.
            self.same(run.end, ("done",))

    def test_samples(self):
        for at, source in enumerate(SAMPLES):
            self.check(compiled_text(source), random.Random(at), every=(5, 40), inputs=[1, "two"], fuel=150, room=1000)

    def test_random_programs(self):
        for seed in range(10):
            rng = random.Random(seed)
            codes = random_codes(rng, compile_program(random_program(rng)), rng.choice([0, 10]))
            codes, _ = optimise(codes, [rng.choice(PASSES) for _ in range(rng.randrange(4))])
            self.check(codes, rng, every=(20, 70), fuel=rng.choice([40, 200]), room=rng.choice([200, 10000]), depth=rng.choice([3, 24]))

    def test_objects_are_young_and_of_age_0(self):
        run = run_of("x = [[1], [2]]\ny = 1", schedule=(2,))
        run.finish()
        run = load(save(run))
        self.same((run.heap.young, run.heap.old, run.ticks), (3, 0, 0))
        run.collect()
        self.same((run.heap.young, run.heap.old), (3, 0))
        run.collect()
        self.same((run.heap.young, run.heap.old), (0, 3))

    def test_schedules_of_the_loaded_run(self):
        line = save(ticked(run_of("x = [1]\nx = [2]\nx = [3]\nx = [4]"), 2))
        schedule = [0, 2]
        run = load(line, schedule=schedule)
        schedule[:] = [5]
        seen = []
        while run.tick():
            seen.append((run.ticks, run.heap.young, run.heap.old))
        plain = Machine(compiled_text("x = [1]\nx = [2]\nx = [3]\nx = [4]"))
        self.same(seen[:5], [(1, 0, 0), (2, 0, 0), (3, 1, 0), (4, 0, 1), (5, 0, 1)])
        self.same(plain.finish(), run.end)
        for bad in ((3,), (True,), None, "0", 5, (0, -1)):
            for given in (line, "(1 2)", "no note", ""):
                with self.assertRaises(BadOption) as caught:
                    load(given, schedule=bad)
                self.same(caught.exception.option, "schedule")

    def test_before_the_first_tick_and_after_each_end(self):
        run = load(save(run_of("print(take())", inputs=["a"])))
        self.same((run.trace, run.lines, run.end), ((), [], None))
        run.finish()
        self.same((run.prints, run.end), (["a"], ("done",)))
        for source, options in (("x = [1]", {}), ("x = [1]\ny = x", {"fuel": 2}), ("x = [1]\ny = x\nz = y", {"room": 2}), ("1 // 0", {}),
                                ("def f(n):\n    f([n])\nf(1)", {"depth": 5}), ("def f(n):\n    f([n])\nf(1)", {"room": 9}),
                                ("raise Error(1) from KeyError([2])", {}), ("x", {"fuel": 0})):
            run = run_of(source, **options)
            run.finish()
            other = load(save(run))
            self.same((other.end, other.report(), other.picture(), other.trace), (run.end, run.report(), run.picture(), run.trace))
            self.same((other.tick(), other.finish()), (False, run.end))

    def test_entries_of_all_kinds(self):
        inner = unit("f", ("line", 2), ("push_cell", 0), text("a"), ("get_iterator",), ("leave", 2, 0), number(1), ("leave", 3, 1), "at",
                     ("line", 3), ("raise", 0), "end", ("line", 4), ("hold",), ("line", 5), ("cut", 0), PUSH_NONE, RETURN,
                     slots=("a",), cells=("a",), handlers=(("@at", "@end", "@end", 4),))
        run = machine(("make_function", 1), ("call", 0, ()), units=[inner])
        seen = set()
        while run.tick():
            line = save(run)
            seen |= {entry[0] for frame in read_datum(line)[FRAMES] for entry in frame[STACK]}
            self.assertEqual(save(load(line)), line)
        self.assertTrue({"cell", "iterator", "pending", "handled"} <= seen)

    def test_a_place_of_its_own_over_a_yield(self):
        inner = unit("g", LINE, text("own"), ("store", 0), number(5), number(1), ("yield",), POP, ("store_global", "x"), ("load", 0),
                     ("store_global", "y"), PUSH_NONE, RETURN, parameters=("a",), cells=("a",), yields=True, slots=("a", "b"))
        rows = [("load_global", "list"), ("make_function", 1), number(3), ("call", 1, ()), ("get_iterator",), ("fetch", "@no"), POP,
                ("line", 7), ("fetch", "@no"), POP, POP, "no", POP]
        run = machine(*rows, units=[inner])
        run.advance()
        run.advance()
        run.advance()
        self.same(run.lines[-1], ("main", 7))
        run = load(save(run))
        self.same(run.finish(), ("done",))
        self.same(run.picture(), 'globals\n  x = 5\n  y = "own"\nobjects')


class TestBadTexts(MachineCase):

    def setUp(self):
        self.lines = {}

    def bad(self, line):
        with self.assertRaises(BadSave):
            load(line)

    def test_no_notes(self):
        good = save(ticked(run_of("x = 1"), 3))
        for line in ("", "(", "no", "(1  2)", good + " ", " " + good, good[:-1], good + ")", good + "\n", "\x00", chr(37), "\u00e9"):
            self.bad(line)
        load(good)

    def test_notes_of_other_forms(self):
        good = read_datum(save(ticked(run_of("x = 1"), 3)))
        for datum in ((), None, 5, True, "a", (1, 2), good[:-1], good + (0,), good[::-1], ((),) * 9, (None,) * 9, (0,) * 9, (good,),
                      tuple((part,) for part in good)):
            self.bad(write_datum(datum))
        for at in range(9):
            for other in (None, 5, "a", True, (None,), ((),), (5,), ("a", "b"), (("a",),), (((),),), ((None,) * 9,)):
                # Prints may be any strings.
                if other != good[at] and (at, other) != (PRINTS, ("a", "b")):
                    self.bad(write_datum(good[:at] + (other,) + good[at + 1:]))


class BrokenCase(MachineCase):
    """Conditions broken alone, in a text that was written."""

    def start(self, run):
        self.datum = read_datum(save(run))
        load(write_datum(self.datum))

    def get(self, *path):
        part = self.datum
        for at in path:
            part = part[at]
        return part

    def put(self, part, path, value):
        if not path:
            return value
        return part[:path[0]] + (self.put(part[path[0]], path[1:], value),) + part[path[0] + 1:]

    def changed(self, *changes):
        datum = self.datum
        for path, value in changes:
            datum = self.put(datum, path, value)
        return write_datum(datum)

    def broken(self, *path, to):
        """The text is refused with each of these values at a path."""
        for value in to:
            with self.subTest(path=path, value=value):
                self.assertNotEqual(repr(self.get(*path)), repr(value))
                with self.assertRaises(BadSave):
                    load(self.changed((path, value)))

    def fine(self, *path, to):
        for value in to:
            with self.subTest(path=path, value=value):
                line = self.changed((path, value))
                self.assertEqual(save(load(line)), line)

    def objects(self, kind):
        """Return the numbers of the objects of a kind."""
        return [at for at, thing in enumerate(self.get(OBJECTS)) if thing[0] == kind]


class TestBrokenRuns(BrokenCase):

    def test_codes(self):
        self.start(ticked(run_of("def f(a):\n    return [a]\nf(1)"), 4))
        codes = self.get(CODES)
        self.broken(CODES, to=[(), codes[:1], (codes[0], codes[1][:-1]), (codes[0], None), codes[::-1], None, codes + (5,)])
        rows = codes[1][2]
        self.broken(CODES, 1, 2, to=[rows[2:], rows[:-3], (), None, rows + (("what",),), rows + (("jump", 99),),
                                     rows[:1] + (POP,) + rows[1:]])
        self.broken(CODES, 1, 0, to=["g", None, 5])
        self.fine(CODES, 1, 2, to=[rows + (POP,)])

    def test_options_and_inputs(self):
        self.start(ticked(run_of("print(take())\nx = 1", inputs=["a", 2], fuel=50, room=60, depth=7), 12))
        inputs, room, fuel, depth = self.get(OPTIONS)
        self.broken(OPTIONS, to=[(inputs, room, fuel), (inputs, room, fuel, depth, 0), None])
        self.broken(OPTIONS, 0, to=[None, 5, ("a", True), ("a", None), ("a", ()), ("a" * 501, 2), ("a", 10 ** 60), ()])
        self.broken(OPTIONS, 1, to=[-1, 10 ** 9 + 1, True, None, "1"])
        self.broken(OPTIONS, 2, to=[-1, 100001, True, None, 1])
        self.broken(OPTIONS, 3, to=[0, 41, True, None])
        self.fine(OPTIONS, 0, to=[("b", 3), ("a",), (1, 2, 3)])
        self.fine(OPTIONS, 1, to=[0, 10 ** 9])
        self.fine(OPTIONS, 2, to=[len(self.get(LINES)), 100000])
        self.broken(OPTIONS, 2, to=[len(self.get(LINES)) - 1])
        self.fine(OPTIONS, 3, to=[1, 40])
        self.broken(TAKEN, to=[-1, 3, True, None, "1"])
        self.fine(TAKEN, to=[0, 2])

    def test_lines_and_prints(self):
        self.start(ticked(run_of("print(1)\nprint(2)\nx = 1\ny = 2", fuel=5), 10))
        lines = self.get(LINES)
        self.assertEqual(len(lines), 3)
        self.fine(LINES, to=[lines[:1], lines + lines[:2], (("what", -5),)])
        self.broken(LINES, to=[lines + lines, lines + (("main",),), lines + (("main", 1, 2),), lines + ((1, 1),), lines + (("main", "1"),),
                               lines + (("main", True),), lines + (None,), None, 5, lines + ("ab",)])
        self.fine(PRINTS, to=[(), ("a", "b", "c" * 900)])
        self.broken(PRINTS, to=[None, "ab", (1,), ("a", None), (("a",),), ("a", True)])

    def test_ends(self):
        self.start(ticked(run_of("x = 1\ny = 2"), 4))
        self.fine(END, to=[("steps",), ("room",)])
        chain = (("Error", "1", (("main", 1),)),)
        others = [("done",), ("error", chain), ("what",), (), "done", 5, ("done", 1), ("steps", 1), ("error",), ("error", ())]
        self.broken(END, to=others)
        run = run_of("raise Error(1) from KeyError(2)")
        run.finish()
        self.start(run)
        chain = self.get(END)[1]
        self.fine(END, to=[("done",), ("error", chain[:1]), ("error", (("A", "", ()),))])
        for wrong in ((), None, (None,), (chain[0][:2],), (chain[0] + (1,),), ((1, "", ()),), (("A", None, ()),), (("A", "", None),),
                      (("A", "", (("f",),)),), (("A", "", (("f", True),)),), "ab", (("A", "", ((1, 1),)),)):
            self.broken(END, 1, to=[wrong])
        # A run that has ended has frames only if the fuel or the room has ended it.
        self.broken(END, to=[("steps",), ("room",)])
        self.broken(END, to=[None])

    def test_runs_that_have_not_begun(self):
        self.start(run_of("x = 1", inputs=[1]))
        self.fine(END, to=[("done",)])
        self.broken(LINES, to=[(("main", 0),)])
        self.broken(PRINTS, to=[("a",)])
        self.broken(GLOBALS, to=[(("x", ("number", 1)),)])
        self.broken(END, to=[("steps",), ("room",)])
        self.broken(OBJECTS, to=[(("list", None, ()),)])

    def test_globals(self):
        self.start(ticked(run_of("a = 1\nb = [1]\nc = 2"), 9))
        names = self.get(GLOBALS)
        self.assertEqual([name for name, _ in names], ["a", "b"])
        self.fine(GLOBALS, 0, to=[("A", NONE), ("", ("text", "x")), ("a", ("ref", 0))])
        self.broken(GLOBALS, to=[names[::-1], names + names[:1], (names[0], names[0], names[1]), None, names + (("c",),),
                                 names + ((5, NONE),), names + (("c", UNSET),), names + (("c", ("ref", 1)),), names + (("c", NONE, 1),),
                                 names + (("c" * 501, NONE),), names + (("c", ("handled", 0)),), names[:1]])

    def test_values(self):
        run = run_of("x = [1, \"a\", True, None, len, KeyError, [2]]\ny = 1")
        self.start(ticked(run, 14))
        at = self.objects("list")[0]
        self.assertEqual(len(self.get(OBJECTS, at, 2)), 7)
        path = (OBJECTS, at, 2, 0)
        big = 10 ** 60 - 1
        self.fine(*path, to=[("number", big), ("number", -big), ("text", "a" * 500), ("truth", False), NONE, ("builtin", "take"),
                             ("errorclass", "Error"), ("ref", 0), ("ref", 1)])
        self.broken(*path, to=[("number", big + 1), ("number", -big - 1), ("number", True), ("number", "1"), ("number",), ("text", "a" * 501),
                               ("text", 5), ("text", None), ("truth", 1), ("truth", None), ("none", 1), (), None, 5, "none",
                               ("builtin", "foo"), ("builtin", "Error"), ("errorclass", "len"), ("errorclass", "E"), ("what", 1), ("ref", 2),
                               ("ref", -1), ("ref", True), ("ref",), ("ref", 0, 0), UNSET, ("handled", 0), ("pending", 0, NONE),
                               ("iterator", 0), ("cell", 0), ("none", ("none",))])

    def test_objects_that_are_left_over_or_out_of_order(self):
        self.start(ticked(run_of("a = [1]\nb = [2]\nc = 3"), 11))
        things = self.get(OBJECTS)
        self.assertEqual(len(things), 2)
        self.broken(OBJECTS, to=[things[:1], things + things[:1], None, things + (None,), things + (("list", None),)])
        with self.assertRaises(BadSave):
            load(self.changed(((OBJECTS,), things[::-1]), ((GLOBALS, 0, 1), ("ref", 1)), ((GLOBALS, 1, 1), ("ref", 0))))


class TestBrokenObjects(BrokenCase):

    def setUp(self):
        # At the last line all kinds of objects are there.
        run = run_of(BUSY, inputs=["a", 2])
        while not (run.lines and run.lines[-1][1] == 48 and run.trace[-1][0] == "main"):
            self.assertTrue(run.tick())
        self.start(run)
        kinds = {thing[0] for thing in self.get(OBJECTS)}
        self.assertEqual(len(kinds), 10)

    def first(self, kind, test=None):
        return [at for at in self.objects(kind) if test is None or test(self.get(OBJECTS, at))][0]

    def tags(self, at, bad, good=()):
        self.broken(OBJECTS, at, 1, to=bad)
        self.fine(OBJECTS, at, 1, to=good)

    def slots(self, at, bad, good=()):
        self.broken(OBJECTS, at, 2, to=bad)
        self.fine(OBJECTS, at, 2, to=good)

    def test_kinds(self):
        at = self.first("list")
        self.broken(OBJECTS, at, 0, to=["what", "", None, 5, "number", "function", "class", "instance", "iterator", "generator",
                                        "method", "dict"])
        self.broken(OBJECTS, at, to=[("list", None), ("list", None, (), ()), None])

    def test_lists_and_tuples(self):
        for kind in ("list", "tuple"):
            at = self.first(kind, lambda thing: not [entry for entry in thing[2] if entry[0] == "ref"] and len(thing[2]) > 0)
            self.tags(at, [0, "", (), True])
            self.slots(at, [(("number", 1),) * 201, None, (None,), (UNSET,), (("handled", 0),), "ab"], [(("number", 1),) * 200, ()])

    def test_dicts(self):
        at = self.first("dict")
        slots = self.get(OBJECTS, at, 2)
        self.tags(at, [0, (), "d"])
        one, two = ("number", 1), ("number", 2)
        tuples = [number_of for number_of in self.objects("tuple") if slots[2] == ("ref", number_of)]
        self.assertEqual(len(tuples), 1)
        self.slots(at, [slots + (one,), slots + (one, one, one, two), slots + (slots[0], one), slots[:-2] + (slots[1], one),
                        slots + (("builtin", "len"), one), slots + (("errorclass", "Error"), one), slots + (UNSET, one), slots + (one, UNSET),
                        slots + tuple(part for key in range(100, 197) for part in (("number", key), one))],
                   [slots + (one, two), slots + (("truth", True), two) + (one, one), slots + (NONE, NONE),
                    slots + tuple(part for key in range(100, 196) for part in (("number", key), one))])
        # Two tuples that are the same key.
        key = ("tuple", None, (one, two))
        self.assertEqual(self.get(OBJECTS, tuples[0]), key)

    def test_cells(self):
        at = self.first("cell")
        self.tags(at, [0, ()])
        self.slots(at, [(), (NONE, NONE), (("handled", 0),), (("pending", 0, NONE),), None])
        plain = [cell for cell in self.objects("cell") if self.get(OBJECTS, cell, 2, 0)[0] == "number"]
        self.fine(OBJECTS, plain[0], 2, to=[(UNSET,), (("text", "a"),)])

    def test_functions(self):
        at = self.first("function", lambda thing: thing[1][1] == "gen")
        number_of_unit, name = self.get(OBJECTS, at, 1)
        slots = self.get(OBJECTS, at, 2)
        self.tags(at, [(number_of_unit, "other"), (number_of_unit + 1, name), (99, name), (-1, name), (True, name), (str(number_of_unit), name),
                       (number_of_unit,), (number_of_unit, name, 0), None, name])
        self.slots(at, [(), slots + slots, slots + (NONE,), (UNSET,)], [(NONE,)])
        at = self.first("function", lambda thing: thing[1][1] == "add")
        self.slots(at, [(), (NONE,), (("ref", at),), (("ref", self.first("list")),), self.get(OBJECTS, at, 2) * 2])

    def test_methods(self):
        at = self.first("method", lambda thing: len(thing[2]) == 1)
        self.same(self.get(OBJECTS, at, 1), "append")
        self.tags(at, ["get", "upper", "send", "", None, 5, ("append",)], ["pop", "reverse"])
        self.slots(at, [(), (NONE,), (("text", "a"),), (("ref", at),), (UNSET,)])
        self.broken(OBJECTS, at, to=[("method", "upper", (("number", 1),)), ("method", "keys", (("text", "a"),))])
        at = self.first("method", lambda thing: len(thing[2]) == 2)
        one, function = self.get(OBJECTS, at, 2)
        self.tags(at, [None, 5, (), ("enter",)], ["other", ""])
        self.slots(at, [(function, one), (one, one), (function, function), (one, NONE), (NONE, function), (one, function, NONE), (one,)])

    def test_classes(self):
        at = self.first("class", lambda thing: thing[1][0] == "E")
        name, names = self.get(OBJECTS, at, 1)
        slots = self.get(OBJECTS, at, 2)
        self.same(names, ("code", "told"))
        self.tags(at, [(name,), (name, names, 0), (5, names), (name, None), (name, ("code", "code")), (name, ("code",)), (name, ("code", 5)),
                       (name, ("code", None)), None], [("F", ("a", "b")), ("", names)])
        function = slots[2]
        self.slots(at, [slots[:-1], slots + (NONE,), (("number", 1),) + slots[1:], (function,) + slots[1:], (UNSET,) + slots[1:],
                        (("builtin", "len"),) + slots[1:], (("ref", at),) + slots[1:]], [(("errorclass", "KeyError"),) + slots[1:]])
        # A chain that goes round.
        other = self.first("class", lambda thing: thing[1][0] == "W")
        wanted = self.get(OBJECTS, other, 2)
        with self.assertRaises(BadSave):
            load(self.changed(((OBJECTS, at, 2, 0), ("ref", other)), ((OBJECTS, other, 2, 0), ("ref", at))))
        self.assertEqual(wanted[0], NONE)

    def test_instances(self):
        at = self.first("instance", lambda thing: "kept" in thing[1][0])
        names, trace = self.get(OBJECTS, at, 1)
        slots = self.get(OBJECTS, at, 2)
        self.same((names, trace), (("n", "kept"), ()))
        self.tags(at, [(names,), (names, trace, 0), (None, ()), (("n",), ()), (("n", "n"), ()), (("n", 5), ()), (names, None),
                       (names, (("f",),)), (names, (("f", True),)), (names, ((1, 1),)), (names, "ab"), None],
                  [(names, (("f", 1), ("g", -5))), (("kept", "n"), ())])
        self.slots(at, [slots[:-1], slots + (NONE,), (NONE,) + slots[1:], (("number", 1),) + slots[1:], (slots[2],) + slots[1:],
                        (("builtin", "len"),) + slots[1:]])
        many = tuple("a" + str(count) for count in range(60))
        error = self.first("instance", lambda thing: "message" in thing[1][0])
        self.broken(OBJECTS, error, to=[("instance", (many + ("b",), ()), (("errorclass", "Error"),) + (NONE,) * 61)])
        tags = (many + ("cause",), ())
        self.fine(OBJECTS, at, to=[("instance", (names + many[:58], ()), slots + (NONE,) * 58),
                                   ("instance", (names + many[:58] + ("cause",), ()), slots + (NONE,) * 59)])
        self.broken(OBJECTS, at, to=[("instance", (names + many[:59], ()), slots + (NONE,) * 59),
                                     ("instance", (names + many[:59] + ("cause",), ()), slots + (NONE,) * 60),
                                     ("instance", tags, slots[:1] + (NONE,) * 60)])

    def test_iterators(self):
        at = self.first("iterator", lambda thing: thing[1][1] == 4)
        slots = self.get(OBJECTS, at, 2)
        self.tags(at, [(0,), (0, 4, 0), (-2, 4), (0, -1), (True, 4), (0, True), (10 ** 9 + 1, 4), (0, 10 ** 9 + 1), None, ("a", 4), (None, 4)],
                  [(-1, 4), (0, 0), (10 ** 9, 10 ** 9), (3, 4)])
        self.slots(at, [(), slots + slots, (NONE,), (("number", 1),), (("ref", at),), (UNSET,), (("builtin", "len"),)])
        last = self.first("iterator", lambda thing: thing[1][1] != 4)
        self.broken(OBJECTS, last, 2, to=[(("ref", self.first("class")),)])


class TestBrokenGenerators(BrokenCase):

    SOURCE = ("def g(a, b=1):\n    def f():\n        return b\n    try:\n        1 // 0\n    except Error:\n        for x in [a]:\n"
              "            yield x\ndef h():\n    yield 5\ni = g(1)\nj = g(2)\nnext(j)\nk = g(3)\nnext(k)\nk.close()\nz = 1\n")

    def setUp(self):
        run = run_of(self.SOURCE)
        while not (run.lines and run.lines[-1] == ("main", 17)):
            self.assertTrue(run.tick())
        self.start(run)
        self.new, self.waiting, self.ended = [
            [at for at in self.objects("generator") if self.get(OBJECTS, at, 1, 0) == state][0] for state in ("new", "waiting", "ended")]

    def test_tags(self):
        for at in (self.new, self.waiting, self.ended):
            state, name, line, names, rest = self.get(OBJECTS, at, 1)
            self.broken(OBJECTS, at, 1, to=[
                (state, name, line, names), (state, "h", line, names, rest), (state, name, line, names[:-1], rest),
                (state, name, line, names[::-1], rest), (state, name, -1, names, rest), (state, name, True, names, rest),
                (state, name, None, names, rest), ("what", name, line, names, rest), (None, name, line, names, rest),
                ("running", name, line, names, rest), (state, name, line, names, (99,) + rest[1:]),
                (state, name, line, names, (0,) + rest[1:]), (state, name, line, names, (2,) + rest[1:]),
                (state, name, line, names, (3,) + rest[1:]), (state, name, line, names, rest[:-1]), (state, name, line, names, None),
                (state, name, line, names, (True,) + rest[1:])])
            for other in {"new", "waiting", "ended"} - {state}:
                self.broken(OBJECTS, at, 1, 0, to=[other])
        self.fine(OBJECTS, self.waiting, 1, 2, to=[0, 77])
        self.fine(OBJECTS, self.ended, 1, 2, to=[5])
        for at in (self.new, self.ended):
            self.broken(OBJECTS, at, 1, 4, 1, to=[1, False, None])
            self.broken(OBJECTS, at, 1, 4, 2, to=["v", None])

    def test_the_instruction_at_which_it_waits(self):
        behind = self.get(OBJECTS, self.waiting, 1, 4, 1)
        rows = self.get(CODES, 1, 2)
        self.same(rows[behind - 1], ("yield",))
        self.broken(OBJECTS, self.waiting, 1, 4, 1, to=[at for at in range(-1, len(rows) + 3) if at != behind] + [True, None])
        # A yield to which no way leads.
        lost = rows + (("yield",), POP)
        with self.assertRaises(BadSave):
            load(self.changed(((CODES, 1, 2), lost), ((OBJECTS, self.waiting, 1, 4, 1), len(rows) + 1)))
        load(self.changed(((CODES, 1, 2), lost)))

    def test_the_stack(self):
        letters = self.get(OBJECTS, self.waiting, 1, 4, 2)
        self.same(letters, "hi")
        self.broken(OBJECTS, self.waiting, 1, 4, 2, to=["h", "hv", "vi", "ih", "hii", "", None])
        slots = self.get(OBJECTS, self.waiting, 2)
        error, iterator = slots[-2:]
        self.same((error[0], iterator[0]), ("handled", "ref"))
        lists = ("ref", [at for at in self.objects("list")][0])
        for stack in ((error,), (iterator, error), (iterator, iterator), (("ref", error[1]), iterator), (("handled", iterator[1]), iterator),
                      (error, lists), (error, NONE), (error, UNSET), (error, iterator, NONE), (("pending", 4, error), iterator), ()):
            self.broken(OBJECTS, self.waiting, 2, to=[slots[:-2] + stack])

    def test_entries_of_names(self):
        for at in (self.new, self.waiting):
            names = self.get(OBJECTS, at, 1, 3)
            slots = self.get(OBJECTS, at, 2)
            self.same(names, ("a", "b", "f", "x"))
            self.fine(OBJECTS, at, 2, 0, to=[UNSET, NONE])
            self.broken(OBJECTS, at, 2, 0, to=[("handled", at), ("pending", 0, NONE), None])
            # The second name has a cell, and a place of its own behind the names.
            self.broken(OBJECTS, at, 2, 1, to=[NONE, UNSET, ("number", 1), ("ref", at)])
            self.same(slots[4], UNSET)
            self.fine(OBJECTS, at, 2, 4, to=[NONE, ("number", 1)])
            self.broken(OBJECTS, at, 2, to=[slots[:3], slots[1:], slots + (NONE,)])
        self.broken(OBJECTS, self.new, 2, to=[self.get(OBJECTS, self.new, 2)[:4]])
        self.broken(OBJECTS, self.ended, 2, to=[(NONE,), (UNSET,)])


class TestBrokenFrames(BrokenCase):

    SOURCE = ("def g(a):\n    def f():\n        return a\n    for x in [1]:\n        try:\n            1 // 0\n        except Error as e:\n"
              "            try:\n                yield x\n            finally:\n                b = 2\n"
              "def h(n):\n    for y in g(n):\n        c = 1\nh(1)\n")

    def start_at(self, *place):
        run = run_of(self.SOURCE)
        while not (run.lines and run.lines[-1] == place):
            self.assertTrue(run.tick())
        self.start(run)
        return run

    def test_frames(self):
        self.start_at("g", 9)
        frames = self.get(FRAMES)
        self.assertEqual(len(frames), 3)
        self.broken(FRAMES, to=[(), frames[:2], frames[1:], frames[::-1], frames + frames[2:], None, (None,) + frames, frames[:2] + (frames[2][:-1],),
                                frames[:1] + frames[2:]])
        self.broken(OPTIONS, 3, to=[2, 1])
        self.fine(OPTIONS, 3, to=[3])

    def test_units_and_places(self):
        self.start_at("g", 9)
        for level in range(3):
            self.broken(FRAMES, level, UNIT, to=[99, -1, None, True, (self.get(FRAMES, level, UNIT) + 1) % 3])
            self.broken(FRAMES, level, ROW, to=[-1, None, True, "1", 10 ** 9 + 1])
            self.fine(FRAMES, level, ROW, to=[0, 55])
            self.broken(FRAMES, level, AT, to=[-1, 0, 99, None, True, "5"])
        # The ones that wait stand behind an instruction that can make a frame.
        for level in range(2):
            unit_number = self.get(FRAMES, level, UNIT)
            rows = self.get(CODES, unit_number, 2)
            at = self.get(FRAMES, level, AT)
            self.assertIn(rows[at - 1][0], ("call", "fetch"))
            self.broken(FRAMES, level, AT, to=[other for other in range(len(rows) + 2) if other != at])

    def test_slots_and_cells(self):
        self.start_at("g", 9)
        slots = self.get(FRAMES, 2, SLOTS)
        self.fine(FRAMES, 2, SLOTS, len(slots) - 1, to=[NONE, UNSET if slots[-1] != UNSET else ("number", 3)])
        self.broken(FRAMES, 2, SLOTS, to=[slots[:-1], slots + (UNSET,), None, slots[:-1] + (("handled", 0),), slots[:-1] + (("iterator", 0),),
                                          slots[:-1] + (("ref", 99),), slots[:-1] + (None,)])
        cells = self.get(FRAMES, 2, CELLS)
        self.assertEqual(len(cells), 1)
        self.broken(FRAMES, 2, CELLS, to=[(), cells + cells, (NONE,), (UNSET,), (("ref", self.objects("list")[0]),), (("cell", cells[0][1]),), None])

    def test_stacks(self):
        self.start_at("g", 9)
        stack = self.get(FRAMES, 2, STACK)
        self.same([entry[0] for entry in stack], ["iterator", "handled"])
        iterator, error = stack[0], stack[1]
        self.broken(FRAMES, 2, STACK, to=[(), stack[:1], stack[::-1], stack + (NONE,), (NONE, error), (iterator, NONE), (iterator, UNSET),
                                          (("ref", iterator[1]), error), (("cell", iterator[1]), error), (iterator, ("ref", error[1])),
                                          (iterator, ("handled", iterator[1])), (("iterator", error[1]), error), (iterator, iterator), None,
                                          (iterator, ("pending", 4, error)), (iterator, ("handled", 99)), (("iterator", 99), error)])
        below = self.get(FRAMES, 1, STACK)
        self.same([entry[0] for entry in below], ["iterator"])
        # The frame below waits for its own generator.
        self.broken(FRAMES, 1, STACK, to=[(), (iterator,), (NONE,), below + (NONE,)])
        self.broken(FRAMES, 0, STACK, to=[(NONE,), (iterator,)])

    def test_pending(self):
        run = run_of(self.SOURCE.replace("yield x", "yield x\n                1 // 0"))
        while not (run.lines and run.lines[-1][0] == "g" and run.frames[-1].stack[-1:] and run.frames[-1].stack[-1][0] == "pending"):
            self.assertTrue(run.tick())
        self.start(run)
        stack = self.get(FRAMES, 2, STACK)
        pending = stack[-1]
        self.same(pending[:2], ("pending", 4))
        states = run.shapes[run.frames[-1].number][run.frames[-1].at][0]
        self.same(states[-1], ("pending", (0, 4)))
        at = len(stack) - 1
        error = pending[2]
        self.broken(FRAMES, 2, STACK, at, to=[
            ("pending", 1, NONE), ("pending", 2, NONE), ("pending", 3, NONE), ("pending", 5, NONE), ("pending", -1, NONE), ("pending", True, NONE),
            ("pending", 0, error), ("pending", 0, ("number", 1)), ("pending", 4, NONE), ("pending", 4, ("ref", error[1])), ("pending", 4),
            ("pending", 4, ("handled", 99)), ("pending", 4, ("handled", self.objects("list")[0])), error, NONE, ("pending", None, NONE)])

    def test_a_pending_return(self):
        run = run_of("def f():\n    try:\n        return 1\n    finally:\n        x = 2\nf()")
        while run.lines[-1:] != [("f", 5)]:
            run.tick()
        self.start(run)
        self.same(self.get(FRAMES, 1, STACK), (("pending", 1, ("number", 1)),))
        self.fine(FRAMES, 1, STACK, to=[(("pending", 1, NONE),)])
        self.broken(FRAMES, 1, STACK, to=[(("pending", 0, NONE),), (("pending", 1, UNSET),), (("pending", 1, ("handled", 0)),), (("pending", 1),),
                                          (("pending", 2, NONE),)])

    def test_owners(self):
        self.start_at("g", 9)
        owner = self.get(FRAMES, 2, OWNER)
        self.broken(FRAMES, 2, OWNER, to=[None, NONE, ("ref", 99), ("ref", self.objects("list")[0]), 5, ("handled", owner[1])])
        self.broken(FRAMES, 1, OWNER, to=[owner])
        self.broken(FRAMES, 0, OWNER, to=[owner, NONE])
        tag = self.get(OBJECTS, owner[1], 1)
        self.broken(OBJECTS, owner[1], 1, to=[("ended",) + tag[1:]])
        # One more running generator, which owns no frame.
        things = self.get(OBJECTS)
        at = len(things)
        with self.assertRaises(BadSave):
            load(self.changed(((OBJECTS,), things + (("generator", tag, ()),)), ((FRAMES, 2, SLOTS, 4), ("ref", at))))

    def test_manners(self):
        self.start_at("g", 9)
        self.same([frame[MANNER] for frame in self.get(FRAMES)], [("call",), ("call",), ("fetch",)])
        for level, others in ((0, [("init", NONE), ("fetch",)]), (1, [("fetch",), ("next",), ("send",), ("close",), ("init", NONE)]),
                              (2, [("call",), ("next",), ("send",), ("close",), ("next", NONE)])):
            self.broken(FRAMES, level, MANNER, to=others + [(), None, ("what",), "call", ("call", NONE), ("fetch", NONE), ("init",), ("next", UNSET),
                                                            ("next", NONE, NONE), (None,)])

    def test_calls_of_generators_and_inits(self):
        source = "def g():\n    x = 1\n    yield x\nclass A:\n    def init(self, n):\n        self.n = n\n{}\n"
        for call, manner, others in (
                ("next(g())", ("next",), [("next", NONE), ("close",), ("call",), ("fetch",)]),
                ("next(g(), 5)", ("next", ("number", 5)), [("next",), ("close",), ("send",), ("call",)]),
                ("g().send(None)", ("send",), [("next", NONE), ("close",), ("init", NONE)])):
            run = run_of(source.replace("{}", call))
            while run.lines[-1:] != [("g", 1)]:
                run.tick()
            self.start(run)
            self.same(self.get(FRAMES, 1, MANNER), manner)
            self.broken(FRAMES, 1, MANNER, to=others)
        run = run_of(source.replace("{}", "A([])"))
        while run.lines[-1:] != [("init", 5)]:
            run.tick()
        self.start(run)
        self.same(self.get(FRAMES, 1, MANNER)[0], "init")
        lists = ("ref", self.objects("list")[0])
        self.broken(FRAMES, 1, MANNER, to=[("init", lists), ("init", NONE), ("init",), ("next",)])

    def test_the_outermost_frame(self):
        # A function of unit 0 may be called, but the outermost frame is of unit 0.
        run = run_of("def f():\n    x = 1\nf()")
        while run.lines[-1:] != [("f", 2)]:
            run.tick()
        self.start(run)
        frames = self.get(FRAMES)
        self.broken(FRAMES, to=[frames[1:]])
        self.broken(FRAMES, 0, to=[frames[1]])


class TestBrokenInlining(BrokenCase):

    def setUp(self):
        codes, papers = optimise(compiled_text("def f(a, b):\n    c = a\n    return c\nq = [1]\nx = f(q, 2)\ny = 1"), ("inline",))
        self.assertEqual(len(papers), 1)
        run = Machine(codes)
        while run.lines[-1:] != [("f", 3)]:
            run.tick()
        self.start(run)

    def test_the_virtual_frame(self):
        frame = self.get(FRAMES, 0)
        self.same((frame[INLINED], len(frame[SLOTS])), (3, 3))
        self.fine(FRAMES, 0, INLINED, to=[0, 77])
        self.broken(FRAMES, 0, INLINED, to=[None, -1, True, "3", (3,)])
        self.fine(FRAMES, 0, SLOTS, 2, to=[UNSET, NONE])
        self.broken(OPTIONS, 3, to=[1])
        self.fine(OPTIONS, 3, to=[2])

    def test_further_slots_without_one(self):
        codes = self.get(CODES)
        run = load(self.changed())
        while run.lines[-1:] != [("main", 6)]:
            run.tick()
        self.start(run)
        self.same(self.get(FRAMES, 0, SLOTS), (UNSET,) * 3)
        self.broken(FRAMES, 0, SLOTS, 1, to=[NONE, ("number", 1)])
        self.broken(FRAMES, 0, INLINED, to=[0, 5])
        self.assertEqual(self.get(CODES), codes)


class TestDrawnChanges(BrokenCase):
    """Texts with drawn changes are refused, or the machine keeps what is promised."""

    OTHERS = (None, True, 0, 1, -1, 2, 10 ** 60, "", "a", "running", "waiting", "new", "call", "next", (), NONE, UNSET, ("ref", 0), ("ref", 1),
              ("handled", 1), ("pending", 0, NONE), ("pending", 4, ("handled", 0)), ("iterator", 0), ("cell", 0), ("number", 3), ("done",))

    def paths(self, part, path=()):
        found = [path] if path else []
        if isinstance(part, tuple):
            for at, inner in enumerate(part):
                found += self.paths(inner, path + (at,))
        return found

    def drawn(self, rng, part):
        pick = rng.randrange(5)
        if isinstance(part, int) and pick < 3:
            return part + rng.choice([-1, 1, 2])
        if isinstance(part, tuple) and pick < 3 and part:
            at = rng.randrange(len(part))
            return rng.choice([part[:at] + part[at + 1:], part + part[at:at + 1], part[::-1], part + (rng.choice(self.OTHERS),)])
        return rng.choice(self.OTHERS)

    def test_drawn_changes(self):
        kept = 0
        for seed in range(30):
            rng = random.Random(seed)
            codes, _ = optimise(compiled_text(BUSY), ("inline",) if seed % 2 else ())
            self.datum = read_datum(save(ticked(Machine(codes, inputs=["a", 2], fuel=120), rng.randrange(1, 700))))
            paths = [path for path in self.paths(self.datum) if path[0] not in (CODES, LINES) or rng.random() < 0.02]
            for _ in range(25):
                path = rng.choice(paths)
                line = self.changed((path, self.drawn(rng, self.get(*path))))
                try:
                    run = load(line)
                except BadSave:
                    continue
                kept += 1
                self.assertEqual(save(run), line)
                many = max(len(code) for code in run.units)
                before = run.steps
                run.picture()
                while run.tick():
                    self.assertLessEqual(run.ticks, (run.steps - before + 40) * many + 2)
                self.assertEqual(save(load(save(run))), save(run))
        self.assertGreater(kept, 60)


if __name__ == "__main__":
    unittest.main()
