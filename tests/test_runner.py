"""Points 51 to 54 and 66 to 69: options, steps, pictures, ends, and the ways to lead a run."""

import random
import unittest

from likerun.errors import BadLevel, BadOption
from likerun.reading import Reading
from likerun.runner import DEPTH, FUEL, ROOM, Runner
from likerun.scopes import read_program
from tests.programs import random_program
from tests.running import RunCase, reading

EXAMPLE = """def f(n):
    return 10 // n
try:
    print(f(5))
    print(f(0))
except ZeroError as e:
    print(e)
"""


class TestExamples(RunCase):

    def test_point_69(self):
        run = self.steps(EXAMPLE, "main 0, main 1, main 4, f 1, f 2, main 5, f 1, f 2, main 6, main 7")
        self.same(run.prints, ["2", "ZeroError()"])
        self.same(run.end, ("done",))
        run = self.error(EXAMPLE + "raise e", ("ZeroError", "", (("main", 8),)))
        run = reading(EXAMPLE)
        for _ in range(10):
            run.advance()
        self.assertIn("instance (message) <class ZeroError> None", run.picture())
        self.error("def f(n):\n    return 10 // n\ntry:\n    f(5)\n    f(0)\nfinally:\n    pass",
                   ("ZeroError", "", (("main", 5), ("f", 2))))

    def test_example_of_the_interface(self):
        run = reading("x = [1]\ny = x")
        self.same([run.advance() for _ in range(3)], [True, True, True])
        self.same(run.picture(), "globals\n  x = #1\nframe main line 2\nobjects\n  #1 list 1")

    def test_the_constants(self):
        self.same((ROOM, FUEL, DEPTH), (10000, 2000, 24))
        self.assertTrue(issubclass(Reading, Runner))


class TestOptions(RunCase):

    def refused(self, option, **options):
        with self.subTest(options=options), self.assertRaises(BadOption) as caught:
            reading("pass", **options)
        self.same(caught.exception.option, option)

    def test_ranges(self):
        for room in (0, 1, 10 ** 9):
            reading("pass", room=room)
        for room in (-1, 10 ** 9 + 1, True, None, "1", (1,)):
            self.refused("room", room=room)
        for fuel in (0, 1, 100000):
            reading("pass", fuel=fuel)
        for fuel in (-1, 100001, False, None, "1", [1]):
            self.refused("fuel", fuel=fuel)
        for depth in (1, 2, 40):
            reading("pass", depth=depth)
        for depth in (0, -1, 41, True, None, "1"):
            self.refused("depth", depth=depth)

    def test_inputs(self):
        big = 10 ** 60
        for inputs in ((), [], [1], ("a", -1), [big - 1, 1 - big], ["", "a" * 500, " ~\n\n", "&$#"]):
            reading("pass", inputs=inputs)
        for inputs in ([True], [False, 1], [None], [(1,)], [[]], [big], [-big], ["a" * 501], ["\t"], [chr(37)], ["\x7f"],
                       ["a\r"], [chr(233)], "ab", None, 1, {1: 2}, {"a"}, b"a", [b"a"]):
            self.refused("inputs", inputs=inputs)

    def test_order(self):
        self.refused("inputs", inputs=[None], room=-1, fuel=-1, depth=0)
        self.refused("room", room=-1, fuel=-1, depth=0)
        self.refused("fuel", fuel=-1, depth=0)

    def test_inputs_are_copied(self):
        inputs = [1, "b"]
        run = reading("print(take())\nprint(take())\nprint(take())", inputs=inputs)
        run.advance()
        inputs[0] = 5
        inputs.append(7)
        run.finish()
        self.same(run.prints, ["1", "b"])
        self.same(run.end[1][0][:2], ("StopError", ""))
        self.same(inputs, [5, "b", 7])


class TestSteps(RunCase):
    """Points 53 and 54."""

    def test_simple_statements(self):
        self.steps("", "main 0")
        self.steps("pass", "main 0, main 1")
        self.steps("x = 1\nx += 1\nx\ndel x\n\n# a\npass", [0, 1, 2, 3, 4, 7])
        self.steps("x = [\n1,\n2]\ny = 1", [0, 1, 4])
        self.steps("class A:\n  a = 1\n  def f():\n    pass\n  pass\nx = 1", [0, 1, 6])
        self.steps("def f(a=1):\n  pass\nx = 1", [0, 1, 3])
        self.steps("def f():\n  global x\n  x = 1\nf()", "main 0, main 1, main 4, f 1, f 3")
        self.steps("def f():\n  x = 1\n  def g():\n    nonlocal x\n    x = 2\n  g()\nf()",
                   "main 0, main 1, main 7, f 1, f 2, f 3, f 6, g 3, g 5")
        self.steps("def f():\n  return\n  x\nf()", "main 0, main 1, main 4, f 1, f 2")
        self.steps("raise Error()", [0, 1])
        self.steps("def f():\n  yield 1\nf()", "main 0, main 1, main 3")
        self.steps("x = lambda: (\n1)\nx()", "main 0, main 1, main 3, lambda 1")

    def test_if(self):
        text = "if {}:\n  1\nelif {}:\n  2\nelif {}:\n  3\nelse:\n  4\n5"
        for tests, wanted in (("100", [0, 1, 2, 9]), ("010", [0, 1, 3, 4, 9]), ("001", [0, 1, 3, 5, 6, 9]), ("000", [0, 1, 3, 5, 8, 9])):
            self.steps(text.format(*tests), wanted)
        self.steps("if 0:\n  1\n2", [0, 1, 3])

    def test_while(self):
        self.steps("n = 2\nwhile n:\n  n -= 1\nelse:\n  4\n5", [0, 1, 2, 3, 2, 3, 2, 5, 6])
        self.steps("n = 2\nwhile n:\n  n -= 1\n  if n == 1:\n    break\nelse:\n  4\n5", [0, 1, 2, 3, 4, 5, 8])
        self.steps("n = 2\nwhile n:\n  n -= 1\n  continue\n  6\n5", [0, 1, 2, 3, 4, 2, 3, 4, 2, 6])
        self.steps("while 0:\n  1", [0, 1])

    def test_for(self):
        self.steps("for n in [1, 2]:\n  n\nelse:\n  4\n5", [0, 1, 1, 2, 1, 2, 1, 4, 5])
        self.steps("for n in []:\n  n\n5", [0, 1, 1, 3])
        self.steps("for n in [1, 2]:\n  break\nelse:\n  4\n5", [0, 1, 1, 2, 5])
        self.steps("for n in [1, 2]:\n  continue\n  3\n5", [0, 1, 1, 2, 1, 2, 1, 4])

    def test_try(self):
        self.steps("try:\n  1\nexcept:\n  2\nelse:\n  3\nfinally:\n  4\n5", [0, 2, 6, 8, 9])
        text = "try:\n  raise {}()\nexcept KindError:\n  4\nexcept (SizeError, StopError) as e:\n  6\nexcept:\n  8\nfinally:\n  10\n11"
        self.steps(text.format("KindError"), [0, 2, 3, 4, 10, 11])
        self.steps(text.format("StopError"), [0, 2, 3, 5, 6, 10, 11])
        self.steps(text.format("FlowError"), [0, 2, 3, 5, 7, 8, 10, 11])
        self.steps("try:\n  try:\n    raise Error()\n  except KindError:\n    5\nexcept:\n  7", [0, 3, 4, 6, 7])

    def test_with(self):
        text = "class W:\n  def enter(s):\n    return\n  def leave(s, e):\n    return\nwith W():\n  pass\n8"
        self.steps(text, "main 0, main 1, main 6, enter 2, enter 3, main 7, main 6, leave 4, leave 5, main 8")

    def test_comprehensions_and_generators(self):
        self.steps("[n for n in\n [1, 2]]", "main 0, main 1, comp 1, comp 1, comp 1, comp 1")
        self.steps("def f():\n  yield 1\n  yield 2\nfor n in f():\n  n",
                   "main 0, main 1, main 4, main 4, f 1, f 2, main 5, main 4, f 3, main 5, main 4")
        self.steps("def f():\n  yield 1\n[n for n in f()]", "main 0, main 1, main 3, comp 3, comp 3, f 1, f 2, comp 3")

    def test_fuel(self):
        text = "x = 1\ny = 2\nz = 3"
        for fuel in range(7):
            run = self.finished(text, fuel=fuel)
            self.same(run.lines, [("main", 0), ("main", 1), ("main", 2), ("main", 3)][:fuel])
            self.same(run.steps, min(fuel, 4))
            self.same(run.end, ("steps",) if fuel < 4 else ("done",))
            # The line is set by the step that is not taken any more.
            self.same(run.trace, (("main", fuel),) if fuel < 4 else ())
        run = self.finished("while 1:\n  pass")
        self.same((run.steps, run.end), (2000, ("steps",)))

    def test_fuel_runs_no_handler(self):
        text = "try:\n  x = 1\n  x = 2\nexcept:\n  print(1)\nfinally:\n  print(2)"
        run = self.finished(text, fuel=2)
        self.same((run.end, run.prints, run.trace), (("steps",), [], (("main", 3),)))
        self.same(run.picture(), "globals\n  x = 1\nframe main line 3\nobjects")

    def test_room(self):
        # The list has the size 4 when the step of line 2 is taken.
        for room, lines, end in ((3, [0, 1, 2], ("room",)), (4, [0, 1, 2], ("done",))):
            run = self.finished("x = [1, 2]\ny = 1", room=room)
            self.same(([line for _, line in run.lines], run.end), (lines, end))
        run = self.finished("x = 1\ny = 2", room=0)
        self.same(run.end, ("done",))
        run = self.finished("x = []\nprint(1)", room=0)
        self.same((run.end, run.prints, run.trace, run.steps), (("room",), [], (("main", 2),), 3))
        # What was made in the last statement is not asked any more.
        self.same(self.finished("x = []", room=0).end, ("done",))

    def test_room_in_functions_and_guards(self):
        text = "def f(n):\n  x = [n]\n  return x\ntry:\n  f([1, 2, 3])\nfinally:\n  print(1)"
        run = self.finished(text, room=9)
        self.same((run.end, run.prints, run.trace), (("room",), [], (("main", 5), ("f", 3))))
        self.same(run.lines[-1], ("f", 3))
        # The function 2, the list n 5, the list x 3.
        self.same(run.room_used(), 10)
        self.same(run.picture(), "globals\n  f = #1\nframe main line 5\nframe f line 3\n  n = #2\n  x = #3\nobjects\n"
                  "  #1 function f\n  #2 list 1 2 3\n  #3 list #2")
        self.same(self.finished(text, room=10).end, ("done",))
        # At the entering step the parameters are bound.
        run = self.finished(text, room=6)
        self.same((run.end, run.trace), (("room",), (("main", 5), ("f", 1))))

    def test_what_counts_for_the_room(self):
        # What unfinished expressions and statements hold does not count.
        self.same(self.finished("def f():\n  return 1\n[1, 2, 3, f()]\nfor n in [1, 2, 3]:\n  n", room=2).end, ("done",))
        # Cells count, also when they are not bound: the functions f and g with a cell, 2 + 3 + 3.
        text = "def f():\n  def g():\n    return x\n  pass\n  x = 1\nf()"
        run = self.finished(text, room=7)
        self.same((run.end, run.trace), (("room",), (("main", 6), ("f", 4))))
        self.same(run.picture(), "globals\n  f = #1\nframe main line 6\nframe f line 4\n  g = #2\n  x = #3\nobjects\n"
                  "  #1 function f\n  #2 function g #3\n  #3 cell unset")
        self.same(self.finished(text, room=8).end, ("done",))
        # Objects count once, and only as long as they can be reached.
        self.same(self.finished("x = [1, 2]\ny = x\nz = (x, y)\nx = y = 1".replace("x = y = 1", "x = 1\nz = 1\nx = 2"),
                                room=8).end, ("done",))
        # A waiting generator counts with its names, not with what else it holds.
        text = "def f():\n  for n in [1, 2, 3, 4]:\n    yield n\ng = f()\nnext(g)\npass"
        run = self.finished(text, room=5)
        self.same(run.end, ("done",))
        run = self.finished(text, room=4)
        self.same((run.end, run.lines[-1]), (("room",), ("main", 5)))


class TestPictures(RunCase):
    """Points 52, 53 and 66."""

    def at(self, text, steps, **options):
        """Return a run that stands at this step."""
        run = reading(text, **options)
        for _ in range(steps):
            self.same(run.advance(), True)
        return run

    def test_new_runs(self):
        run = reading("x = 1")
        self.same(run.picture(), "globals\nobjects")
        self.same((run.prints, run.lines, run.steps, run.end, run.trace, run.room_used()), ([], [], 0, None, (), 0))
        self.same(run.advance(), True)
        self.same(run.picture(), "globals\nframe main line 0\nobjects")
        self.same((run.lines, run.trace), ([("main", 0)], (("main", 0),)))

    def test_frames(self):
        text = ("def f(b, a=[1]):\n  c = (a, b)\n  return g(c)\ndef g(x):\n  y = x\n  del x\n  return len(y)\nk = {1: 2}\n"
                "print(f(k))")
        run = self.at(text, 11)
        self.same(run.trace, (("main", 9), ("f", 3), ("g", 6)))
        self.same(run.picture(), """globals
  f = #1
  g = #2
  k = #3
frame main line 9
frame f line 3
  a = #4
  b = #3
  c = #5
frame g line 6
  x = #5
  y = #5
objects
  #1 function f #4
  #2 function g
  #3 dict 1 2
  #4 list 1
  #5 tuple #4 #3""")
        run.advance()
        self.assertIn("frame g line 7\n  y = #5\nobjects", run.picture())
        self.same(run.names(0), [])
        self.same(run.names(1), [("a", "#4"), ("b", "#3"), ("c", "#5")])
        self.same(run.names(2), [("y", "#5")])
        self.same(run.room_used(), 3 + 2 + 4 + 3 + 4)

    def test_bad_levels(self):
        run = reading("x = 1")
        for level in (0, 1, -1):
            self.bad_level(run, level)
        run.advance()
        self.same(run.names(0), [])
        self.bad_level(run, 1)
        self.bad_level(run, -1)
        run.finish()
        self.bad_level(run, 0)

    def bad_level(self, run, level):
        with self.assertRaises(BadLevel) as caught:
            run.names(level)
        self.same(caught.exception.level, level)

    def test_cells_and_comprehensions(self):
        text = "def f(n):\n  return [(lambda: n + k) for k in [5]]\nx = f(1)\nx"
        run = self.at(text, 7)
        self.same(run.picture(), """globals
  f = #1
frame main line 3
frame f line 2
  n = #2
frame comp line 2
  .items = #3
  .out = #4
  k = #5
  n = #2
objects
  #1 function f
  #2 cell 1
  #3 list 5
  #4 list
  #5 cell unset""")
        run.advance()
        self.same(run.names(2), [(".items", "#3"), (".out", "#4"), ("k", "#5"), ("n", "#2")])
        self.assertIn("  #4 list #6\n  #5 cell 5\n  #6 function lambda #5 #2", run.picture())

    def test_the_entering_step_of_a_comprehension(self):
        run = self.at("[n for n in [1]]", 3)
        self.same(run.picture(), "globals\nframe main line 1\nframe comp line 1\n  .items = #1\nobjects\n  #1 list 1")

    def test_generators(self):
        text = "def f(a, b=2):\n  c = yield a\n  d = lambda: c\n  yield\ng = f([1])\nnext(g)\nnext(g)\nlist([n for n in g])\n0"
        run = self.at(text, 3)
        self.same(run.picture(), "globals\n  f = #1\nframe main line 5\nobjects\n  #1 function f 2")
        run.advance()
        self.same(run.picture(), """globals
  f = #1
  g = #2
frame main line 6
objects
  #1 function f 2
  #2 generator f new 1 (a b c d) #3 2 #4 unset
  #3 list 1
  #4 cell unset""")
        run.advance()
        self.same(run.picture(), """globals
  f = #1
  g = #2
frame main line 6
frame f line 1
  a = #3
  b = 2
  c = #4
objects
  #1 function f 2
  #2 generator f running
  #3 list 1
  #4 cell unset""")
        for _ in range(2):
            run.advance()
        self.assertIn("#2 generator f waiting 2 (a b c d) #3 2 #4 unset\n", run.picture())
        for _ in range(4):
            run.advance()
        self.assertIn("#2 generator f waiting 4 (a b c d) #3 2 #4 #5\n  #3 list 1\n  #4 cell None\n  #5 function lambda #4",
                      run.picture())
        while run.lines[-1] != ("main", 9):
            run.advance()
        self.same(run.picture(), "globals\n  f = #1\n  g = #2\nframe main line 9\nobjects\n  #1 function f 2\n  #2 generator f ended")

    def test_classes_instances_and_iterators(self):
        text = ("class A:\n  x = 1\n  def f(s):\n    pass\nclass B(A):\n  pass\nb = B()\nb.y = b\nm = b.f\ni = iter([7])\nnext(i)\n"
                "e = KeyError()\ne.cause = e\nj = iter(\"\")\nnext(j, 0)\nk = len\nl = Error\nn = \"a\\n\"\n0")
        run = self.at(text, 16)
        self.same(run.picture(), """globals
  A = #1
  B = #2
  b = #3
  e = #4
  i = #5
  j = #6
  k = <builtin len>
  l = <class Error>
  m = #7
  n = "a\\n"
frame main line 19
objects
  #1 class A (x f) None 1 #8
  #2 class B () #1
  #3 instance (y) #2 #3
  #4 instance (message cause) <class KeyError> None #4
  #5 iterator 1 #9
  #6 iterator ended ""
  #7 method f #3 #8
  #8 function f
  #9 list 7""")

    def test_cycles(self):
        run = self.at("x = []\nx.append(x)\ny = (x, x)\n0", 5)
        self.same(run.picture(), "globals\n  x = #1\n  y = #2\nframe main line 4\nobjects\n  #1 list #1\n  #2 tuple #1 #1")
        self.same(run.room_used(), 7)

    def test_order_of_names(self):
        run = self.at("b = 1\nB = 2\n_a = 3\na1 = 4\na = 5\nb = 6\n0", 8)
        self.same(run.picture(), "globals\n  B = 2\n  _a = 3\n  a = 5\n  a1 = 4\n  b = 6\nframe main line 7\nobjects")


class TestEnds(RunCase):
    """Point 67."""

    def test_done(self):
        run = self.finished("x = 1\nprint(x)")
        self.same((run.end, run.trace, run.picture()), (("done",), (), "globals\n  x = 1\nobjects"))
        self.same(run.report(), (("1",), ("done",), (("main", 0), ("main", 1), ("main", 2))))

    def test_errors(self):
        self.error("raise Error()", ("Error", "", (("main", 1),)))
        self.error("raise Error(None)", ("Error", "", (("main", 1),)))
        self.error("raise Error(\"a\")", ("Error", '"a"', (("main", 1),)))
        self.error("raise Error([1, (2,)])", ("Error", "[1, (2,)]", (("main", 1),)))
        self.error("x", ("NameError", '"x"', (("main", 1),)))
        self.same(self.finished("x").end, ("error", (("NameError", '"x"', (("main", 1),)),)))
        self.error("e = Error(1)\ndel e.message\nraise e", ("Error", "", (("main", 3),)))
        self.error("class E(KeyError):\n  message = 5\n  def init(s):\n    del s.message\ndef f():\n  raise E()\nf()",
                   ("E", "", (("main", 7), ("f", 6))))
        run = self.finished("def f():\n  x = 1 // 0\nf()")
        self.same(run.picture(), "globals\n  f = #1\nobjects\n  #1 function f")

    def test_messages_that_are_too_long(self):
        self.error('raise Error("a" * 498)', ("Error", '"' + "a" * 498 + '"'))
        self.error('raise Error("a" * 499)', ("Error", "..."))
        self.error("x = []\nfor n in range(31):\n  x = [x]\nraise Error(x)", ("Error", "..."))
        self.error("x = []\nx.append(x)\nraise Error(x)", ("Error", "[...]"))

    def test_chains(self):
        self.error("try:\n  1 // 0\nexcept:\n  x", ("NameError", '"x"', (("main", 4),)), ("ZeroError", "", (("main", 2),)))
        self.error("raise Error(1) from KindError(2)", ("Error", "1", (("main", 1),)), ("KindError", "2", ()))
        self.error("try:\n  1 // 0\nexcept:\n  raise Error(1) from None", ("Error", "1", (("main", 4),)))
        self.error("e = Error(1)\ne.cause = 5\nraise e", ("Error", "1", (("main", 3),)))
        self.error("e = Error(1)\ne.cause = Error\nraise e", ("Error", "1", (("main", 3),)))
        # A cause that is in the chain already ends it.
        self.error("e = Error(1)\ne.cause = e\nraise e", ("Error", "1", (("main", 3),)))
        self.error("e = Error(1)\nf = KeyError(2)\ne.cause = f\nf.cause = e\nraise e",
                   ("Error", "1", (("main", 5),)), ("KeyError", "2", ()))
        self.error("try:\n  try:\n    1 // 0\n  except:\n    x\nexcept:\n  [][0]", ("RangeError", "", (("main", 7),)),
                   ("NameError", '"x"', (("main", 5),)), ("ZeroError", "", (("main", 3),)))
        # The attribute of the class is no own one.
        self.error("class E(Error):\n  cause = 1\nraise E()", ("E", ""))

    def test_long_chains(self):
        run = self.finished("e = Error(0)\nwhile e.message < 600:\n  f = Error(e.message + 1)\n  f.cause = e\n  e = f\nraise e",
                            fuel=10000)
        self.assertEqual(len(run.end[1]), 601)
        self.same([row[1] for row in run.end[1][:3]], ["600", "599", "598"])


class TestLeading(RunCase):
    """Point 68."""

    TEXT = "x = 1\nfor n in range(3):\n  print(n)\nprint(x)"

    def test_advance(self):
        run = reading(self.TEXT)
        found = []
        while run.advance():
            found.append(run.lines[-1])
            self.same(run.steps, len(found))
        self.same(found, run.lines)
        self.same(run.end, ("done",))
        for _ in range(3):
            before = run.report(), run.picture()
            self.same(run.advance(), False)
            self.same(run.finish(), ("done",))
            self.same((run.report(), run.picture()), before)

    def test_what_a_step_stands_for_has_not_begun(self):
        run = reading("print(1)\nprint(2)")
        for prints in ([], [], ["1"]):
            self.same(run.advance(), True)
            self.same(run.prints, prints)
        self.same(run.advance(), False)
        self.same(run.prints, ["1", "2"])

    def test_each_statement_waits_behind_its_step(self):
        # None of what could fail has failed when the step has been taken.
        for row in ("x", "x += 1", "del x", "y = x", "x.a = 1", "raise x", "if x:\n  pass", "while x:\n  pass", "for n in x:\n  pass",
                    "with x:\n  pass", "def f(a=x):\n  pass", "class A(x):\n  pass", "class A:\n  b = x", "[n for n in x]", "raise"):
            run = reading(row)
            self.same([run.advance() for _ in range(3)], [True, True, False])
            self.same(run.end[0], "error")
        run = reading("for n in [1]:\n  for a, b in [n]:\n    pass")
        self.same([run.advance() for _ in range(6)], [True] * 5 + [False])
        run = reading("def f():\n  return x\nf()")
        self.same([run.advance() for _ in range(6)], [True] * 5 + [False])
        run = reading("while 1:\n  break")
        self.same([run.advance() for _ in range(4)], [True] * 3 + [False])

    def test_ends_at_a_step(self):
        run = reading("x = []\ny = 1", room=1)
        self.same([run.advance() for _ in range(3)], [True, True, False])
        self.same((run.steps, run.end), (3, ("room",)))
        run = reading("x = []\ny = 1", fuel=2)
        self.same([run.advance() for _ in range(3)], [True, True, False])
        self.same((run.steps, run.end, run.trace), (2, ("steps",), (("main", 2),)))
        for _ in range(2):
            self.same((run.advance(), run.finish(), run.steps), (False, ("steps",), 2))

    def test_finish(self):
        run = reading(self.TEXT)
        run.advance()
        self.same(run.finish(), ("done",))
        self.same(run.finish(), ("done",))
        self.same(run.prints, ["0", "1", "2", "1"])

    def test_walk(self):
        whole = self.finished(self.TEXT)
        run = reading(self.TEXT)
        found = []
        for row in run.walk():
            self.same(run.lines[-1], row)
            found.append(row)
            self.same(run.steps, len(found))
        self.same(found, whole.lines)
        self.same(run.report(), whole.report())
        self.same(list(run.walk()), [])

    def test_walks_that_are_left_early(self):
        whole = self.finished(self.TEXT)
        run = reading(self.TEXT)
        for at, row in enumerate(run.walk()):
            if at == 2:
                break
        self.same(run.lines, whole.lines[:3])
        self.same(run.advance(), True)
        self.same([row for row in run.walk()], whole.lines[4:])
        self.same(run.report(), whole.report())

    def test_walks_by_turns(self):
        whole = self.finished(self.TEXT)
        run = reading(self.TEXT)
        walk = run.walk()
        run.advance()
        # What was there when the first item is asked for is not told.
        self.same(next(walk), whole.lines[1])
        run.advance()
        run.advance()
        self.same(run.steps, 4)
        self.same(next(walk), whole.lines[2])
        self.same(run.steps, 4)
        other = run.walk()
        self.same(next(other), whole.lines[4])
        self.same([next(walk), next(walk)], whole.lines[3:5])
        self.same(run.steps, 5)
        run.finish()
        self.same(list(walk), whole.lines[5:])
        self.same(list(other), whole.lines[5:])

    def test_walks_to_other_ends(self):
        run = reading("x = []\ny = 1", room=1)
        self.same(list(run.walk()), [("main", 0), ("main", 1), ("main", 2)])
        self.same(run.end, ("room",))
        run = reading("x = []\ny = 1", fuel=2)
        self.same(list(run.walk()), [("main", 0), ("main", 1)])
        self.same(list(reading("x = 1", fuel=0).walk()), [])
        self.same(list(reading("x\ny").walk()), [("main", 0), ("main", 1)])

    def test_results_are_new(self):
        run = self.finished(self.TEXT)
        report = run.report()
        for _ in range(2):
            run.prints.append("x")
            run.lines.append(("x", 1))
            self.same(run.report(), report)
        self.assertIsInstance(report[0], tuple)
        self.assertIsInstance(report[2], tuple)
        run = reading(self.TEXT)
        run.advance()
        run.advance()
        run.advance()
        found = run.names(0)
        found.append(("x", "1"))
        self.same(run.names(0), [])

    def test_looking_changes_nothing(self):
        program = random_program(random.Random(5))
        whole = Reading(program)
        whole.finish()
        run = Reading(program)
        while run.advance():
            run.picture()
            run.names(len(run.trace) - 1)
            run.room_used()
            run.report()
            run.walk()
        self.same(run.report(), whole.report())

    def test_two_runs_by_turns(self):
        program = read_program("def f(a=[]):\n  a.append(1)\n  return a\nprint(f())\nprint(f())\nprint(take())")
        one, other = Reading(program, inputs=[1]), Reading(program, inputs=[2])
        while one.advance():
            self.same(other.advance(), True)
            self.same(one.picture(), other.picture())
        other.finish()
        self.same((one.prints, other.prints), (["[1]", "[1, 1]", "1"], ["[1]", "[1, 1]", "2"]))

    def test_all_ways_are_the_same_run(self):
        rng = random.Random(68)
        for seed in range(40):
            program = random_program(random.Random(seed))
            whole = Reading(program, inputs=[1])
            whole.finish()
            run = Reading(program, inputs=[1])
            while run.end is None:
                way = rng.randrange(4)
                if way == 0:
                    run.advance()
                elif way == 1:
                    for at, _ in enumerate(run.walk()):
                        if at == rng.randrange(9):
                            break
                elif way == 2 and rng.random() < 0.02:
                    run.finish()
            self.same(run.report(), whole.report())


if __name__ == "__main__":
    unittest.main()
