"""Points 63 to 65: generators."""

import unittest

from tests.running import RunCase, reading

# A generator that tells what it is sent and how it ends.
TALK = """def talk(n):
    i = 0
    try:
        while i < n:
            got = yield i
            print("got", got)
            i += 1
    except CloseError:
        print("close")
        raise
    finally:
        print("final")
    return "end"
"""


class TestGenerators(RunCase):

    def test_for(self):
        self.check("def f(n):\n  while n:\n    yield n\n    n -= 1\nfor x in f(3):\n  print(x)\nprint([x for x in f(2)])", "3", "2", "1", "[2, 1]")
        self.check("def f():\n  return 5\n  yield\nfor x in f():\n  print(1)\nelse:\n  print(2)\nprint([x for x in f()])", "2", "[]")
        self.check(TALK + "for x in talk(2):\n  print(x)", "0", "got None", "1", "got None", "final")

    def test_calling_runs_nothing(self):
        self.check("def f():\n  print(1)\n  yield 2\ng = f()\nprint(g, kind(g))\nprint(next(g))", "<generator f> generator", "1", "2")
        self.error("def f(a):\n  yield\nf()", ("KindError", "", (("main", 3),)))
        self.check("def f(a=[]):\n  a.append(1)\n  yield a\nx = f()\ny = f()\nprint(next(x))\nprint(next(y))", "[1]", "[1, 1]")

    def test_next(self):
        text = TALK + "g = talk(1)\nprint(next(g))\n"
        self.error(text + "next(g)", ("StopError", '"end"', (("main", 16),)), prints=["0", "got None", "final"])
        self.check(text + "print(next(g, 7))\nprint(next(g, 8))", "0", "got None", "final", "7", "8")
        self.check(text + "try:\n  next(g)\nexcept StopError as e:\n  print(e)\ntry:\n  next(g)\nexcept StopError as e:\n  print(e)",
                   "0", "got None", "final", 'StopError("end")', "StopError()")
        self.error("def f():\n  yield\nnext(f(), 1, 2)", ("KindError", "", (("main", 3),)))
        self.error("def f():\n  yield\ng = f()\nnext(g, d=1)", ("KindError", ""))
        self.check("def f():\n  yield\nprint(next(f(), 5))", "None")

    def test_send(self):
        self.check(TALK + "g = talk(3)\nprint(next(g))\nprint(g.send(5))\nprint(g.send(None))\ntry:\n  g.send([6])\nexcept StopError as e:\n  print(e)",
                   "0", "got 5", "1", "got None", "2", "got [6]", "final", 'StopError("end")')
        self.check(TALK + "g = talk(3)\nprint(g.send(None))", "0")
        self.error(TALK + "g = talk(3)\ng.send(1)", ("KindError", "", (("main", 15),)), prints=[])
        self.check(TALK + "g = talk(3)\ntry:\n  g.send(1)\nexcept KindError:\n  print(g.send(None))", "0")
        self.error(TALK + "g = talk(0)\nnext(g, 0)\ng.send(1)", ("StopError", "", (("main", 16),)), prints=["final"])
        for row in ("g.send()", "g.send(1, 2)", "g.send(v=1)", "g.close(1)", "g.close(v=1)"):
            self.error(TALK + "g = talk(3)\n" + row, ("KindError", "", (("main", 15),)))
            # The number of arguments is asked first.
            if "v" not in row:
                self.error(TALK + "g = talk(0)\nnext(g, 1)\n" + row, ("KindError", "", (("main", 16),)))

    def test_values_of_yields(self):
        self.check("def f():\n  x = yield 1, 2\n  print(x)\n  y, z = yield\n  print(y, z)\n  yield [y]\n"
                   "g = f()\nprint(next(g))\nprint(g.send(5))\nprint(g.send((6, 7)))", "(1, 2)", "5", "None", "6 7", "[6]")
        self.check("def f(a):\n  a[0] = yield a\n  yield a\ng = f([1])\nnext(g)\nprint(g.send(2))", "[2]")

    def test_close(self):
        self.check(TALK + "g = talk(3)\nnext(g)\nprint(g.close())\nprint(g.close(), next(g, 5))", "close", "final", "None", "None 5")
        # A new one runs nothing; an ended one does nothing.
        self.check(TALK + "g = talk(3)\nprint(g.close())\nprint(next(g, 5))", "None", "5")
        self.check("def f():\n  yield 1\n  print(9)\ng = f()\nnext(g)\nprint(g.close(), next(g, 5))", "None 5")
        # Caught: the generator returns, or yields, or raises another error.
        self.check("def f():\n  try:\n    yield 1\n  except CloseError:\n    return 2\ng = f()\nnext(g)\nprint(g.close())", "None")
        self.error("def f():\n  try:\n    yield 1\n  except CloseError:\n    yield 2\ng = f()\nnext(g)\ng.close()", ("FlowError", "", (("main", 8),)))
        self.check("def f():\n  try:\n    yield 1\n  except CloseError:\n    yield 2\n  yield 3\ng = f()\nnext(g)\ntry:\n  g.close()\nexcept FlowError:\n"
                   "  print(next(g))\ng.close()", "3")
        self.error("def f():\n  try:\n    yield 1\n  finally:\n    1 // 0\ng = f()\nnext(g)\ng.close()",
                   ("ZeroError", "", (("main", 8), ("f", 5))), ("CloseError", "", (("main", 8), ("f", 3))))
        self.check("class C(CloseError):\n  pass\ndef f():\n  try:\n    yield 1\n  except:\n    raise C()\ng = f()\nnext(g)\nprint(g.close())", "None")
        # Raised by the generator itself, but not while it is closed.
        self.error("def f():\n  raise CloseError(1)\n  yield\nnext(f())", ("CloseError", "1", (("main", 4), ("f", 2))))

    def test_errors(self):
        for row in ("next(g)", "g.send(None)", "for x in g:\n  pass", "next(g, 5)"):
            self.error("def f():\n  yield 1\n  1 // 0\ng = f()\nnext(g)\n" + row, ("ZeroError", "", (("main", 6), ("f", 3))))
        self.error("def f():\n  1 // 0\n  yield\n[x for x in f()]", ("ZeroError", "", (("main", 4), ("comp", 4), ("f", 2))))
        # Ended behind the error.
        self.check("def f():\n  yield 1\n  1 // 0\ng = f()\nnext(g)\ntry:\n  next(g)\nexcept ZeroError:\n  print(next(g, 5), [x for x in g], g.close())", "5 [] None")

    def test_stop_errors(self):
        for raising in ("raise StopError(3)", "next(iter([]))", "take()", "raise S(3)"):
            text = "class S(StopError):\n  pass\ndef f():\n  yield 1\n  " + raising + "\ng = f()\nnext(g)\n"
            for row in ("next(g)", "next(g, 5)", "g.send(1)", "for x in g:\n  pass"):
                run = self.finished(text + row)
                chain = run.end[1]
                self.same(chain[0], ("FlowError", "", (("main", 8), ("f", 5))))
                self.same((len(chain), chain[1][2]), (2, (("main", 8), ("f", 5))))
                self.assertIn(chain[1][:2], (("StopError", "3"), ("StopError", ""), ("S", "3")))
        # While it is closed, too.
        self.error("def f():\n  try:\n    yield 1\n  except:\n    raise StopError()\ng = f()\nnext(g)\ng.close()", ("FlowError", "", (("main", 8), ("f", 5))),
                   ("StopError", ""), ("CloseError", ""))
        self.check("def f():\n  raise StopError(1)\n  yield\ntry:\n  next(f())\nexcept FlowError as e:\n  print(e, e.cause, repr(e.message))",
                   "FlowError() StopError(1) None")
        # The new error is not raised anew: the handled one is not its cause.
        self.error("def f():\n  raise StopError(1) from None\n  yield\ntry:\n  1 // 0\nexcept:\n  next(f())", ("FlowError", ""), ("StopError", "1"))
        # A StopError within the generator that it catches itself is an ordinary one.
        self.check("def f():\n  try:\n    next(iter([]))\n  except StopError:\n    yield 1\nprint([x for x in f()])", "[1]")

    def test_running(self):
        for row in ("next(g)", "g.send(None)", "g.close()", "for x in g:\n    pass", "[x for x in g]", "next(g, 5)"):
            self.error("def f():\n  " + row + "\n  yield 1\ng = f()\nnext(g)", ("FlowError", "",))
        self.error("def f():\n  next(g)\n  yield\ng = f()\nnext(g)", ("FlowError", "", (("main", 5), ("f", 2))))
        self.check("def f():\n  try:\n    next(g, 5)\n  except FlowError as e:\n    yield e\ng = f()\nprint(next(g))", "FlowError()")
        self.error("def f():\n  next()\n  yield\ng = f()\nnext(g)", ("KindError", ""))
        self.error("def f():\n  next(g, 1, 2)\n  yield\ng = f()\nnext(g)", ("KindError", ""))

    def test_within_each_other(self):
        self.check("def f(n):\n  if n:\n    for x in f(n - 1):\n      yield x\n  yield n\nprint([x for x in f(3)])", "[0, 1, 2, 3]")
        self.check("def a():\n  x = yield 1\n  y = yield x\n  return y\ndef b(g):\n  x = g.send(None)\n  while True:\n    y = yield x\n    x = g.send(y)\ng = b(a())\n"
                   "print(next(g))\nprint(g.send(5))\ntry:\n  g.send(6)\nexcept FlowError as e:\n  print(e.cause)", "1", "5", "StopError(6)")
        self.check("def f():\n  g = h()\n  for x in g:\n    yield x, next(g, 0)\ndef h():\n  yield 1\n  yield 2\n  yield 3\n"
                   "print([x for x in f()])", "[(1, 2), (3, 0)]")

    def test_depth(self):
        text = "def f():\n  yield 1\ng = f()\n"
        for row in ("next(g)", "g.send(None)", "for x in g:\n  pass", "next(g, 5)"):
            self.error(text + row, ("DepthError", "", (("main", 4),)), depth=1)
            self.check(text + row, depth=2)
        self.check(text + "g.close()", depth=1)
        self.error("def f():\n  yield 1\ng = f()\ndef h():\n  g.close()\nnext(g)\nh()", ("DepthError", "", (("main", 7), ("h", 5))), depth=2)
        # The states are asked before the depth.
        self.error("def f():\n  yield 1\ng = f()\ndef h():\n  g.send(1)\nh()", ("KindError", ""), depth=2)
        self.error("def f():\n  yield 1\ng = f()\nnext(g)\nnext(g, 0)\ndef h():\n  g.send(1)\nh()", ("StopError", ""), depth=2)
        self.check("def f():\n  yield 1\ng = f()\ndef h():\n  return g.close(), next(g, 5)\nprint(h())", "(None, 5)", depth=2)
        self.error("def f():\n  next(g)\n  yield\ng = f()\nnext(g)", ("FlowError", ""), depth=2)

    def test_steps_and_traces(self):
        text = "def f():\n  x = yield\n  yield x\ng = f()\nnext(g)\ng.send(1)\ng.close()\n0"
        self.steps(text, "main 0, main 1, main 4, main 5, f 1, f 2, main 6, f 3, main 7, main 8")
        run = reading(text)
        traces = []
        while run.advance():
            traces.append(run.trace)
        self.same(traces[4:8], [(("main", 5), ("f", 1)), (("main", 5), ("f", 2)), (("main", 6),), (("main", 6), ("f", 3))])
        # The frame goes on with the line that it had.
        self.error("def f():\n  x = yield\n  x()\n  yield\ndef h():\n  1 // 0\ng = f()\nnext(g)\ng.send(h)",
                   ("ZeroError", "", (("main", 9), ("f", 3), ("h", 6))))
        self.error("def f():\n  yield g.close\ng = f()\nnext(g)\ng.close()\nzz", ("NameError", '"zz"'))

    def test_handling_in_generators(self):
        # What a generator handles is handled while it runs, and not while it waits.
        text = "def f():\n  try:\n    1 // 0\n  except:\n    yield 1\n    raise\ng = f()\nnext(g)\n"
        self.error(text + "raise", ("FlowError", ""))
        self.error(text + "next(g)", ("ZeroError", "", (("main", 8), ("f", 3))))
        self.error(text + "try:\n  [][0]\nexcept:\n  g.send(1)", ("ZeroError", "", (("main", 8), ("f", 3))))
        # What the resuming frame handles is handled in the generator.
        self.error("def f():\n  raise\n  yield\ntry:\n  1 // 0\nexcept:\n  next(f())", ("ZeroError", "", (("main", 5),)))
        self.check("def f():\n  try:\n    yield 1\n  except CloseError as e:\n    print(e.cause)\ng = f()\nnext(g)\ntry:\n  1 // 0\nexcept:\n  g.close()", "ZeroError()")

    def test_with_and_finally_in_generators(self):
        text = ("class W:\n  def enter(s):\n    print(\"enter\")\n  def leave(s, e):\n    print(\"leave\", e)\ndef f():\n  with W():\n    try:\n      yield 1\n    finally:\n"
                "      print(\"final\")\n  yield 2\ng = f()\nprint(next(g))\n")
        self.check(text + "print(next(g))\nprint(next(g, 3))", "enter", "1", "final", "leave None", "2", "3")
        self.check(text + "g.close()", "enter", "1", "final", "leave CloseError()")
        # One that is freed runs nothing.
        self.check(text + "g = 0", "enter", "1")
        self.check(text, "enter", "1")

    def test_cells(self):
        self.check("def f(n):\n  def up():\n    nonlocal n\n    n += 1\n  while n < 3:\n    yield n, up\ng = f(0)\nn, up = next(g)\nup()\nup()\nprint(next(g)[0])", "2")
        self.check("def outer():\n  k = 5\n  def f():\n    nonlocal k\n    while True:\n      yield k\n      k += 1\n  return f(), f()\na, b = outer()\n"
                   "print(next(a), next(b), next(a), next(b))", "5 5 6 7")

    def test_names_of_generators(self):
        # The slots of the unit in order, then the free names; the entry of a name with a cell is the cell.
        text = ("def f(k, j):\n  def g(b, a=[1]):\n    c = k\n    h = lambda: b + k\n    yield j\n  return g(2)\ng = f([3], 4)\nnext(g)\n0")
        run = reading(text)
        while run.lines[-1:] != [("main", 8)]:
            run.advance()
        self.same(run.picture(), """globals
  f = #1
  g = #2
frame main line 8
objects
  #1 function f
  #2 generator g new 2 (b a c h j k) #3 #4 unset unset #5 #6
  #3 cell 2
  #4 list 1
  #5 cell 4
  #6 cell #7
  #7 list 3""")
        self.same(run.room_used(), 2 + 8 + 3 + 3 + 3 + 3 + 3)
        while run.lines[-1:] != [("main", 9)]:
            run.advance()
        self.same(run.picture(), """globals
  f = #1
  g = #2
frame main line 9
objects
  #1 function f
  #2 generator g waiting 5 (b a c h j k) #3 #4 #5 #6 #7 #8
  #3 cell 2
  #4 list 1
  #5 list 3
  #6 function lambda #3 #8
  #7 cell 4
  #8 cell #5""")

    def test_conversions(self):
        # Only a fetch, next and the methods resume a generator.
        self.fails("KindError", "def f():\n  yield 1\nlist(f())", "def f():\n  yield 1\nlen(f())", "def f():\n  yield 1\na, = f()",
                   "def f():\n  yield 1\n1 in f()", "def f():\n  yield 1\n[].extend(f())", "def f():\n  yield 1\nf()[0]")
        self.check("def f():\n  yield 1\ng = f()\nprint(iter(g) is g)\nfor x in iter(g):\n  print(x)", "True", "1")
        self.fails("FieldError", "def f():\n  yield\nf().next", value='"next"')

    def test_ways_to_leave_loops_over_generators(self):
        text = "def f():\n  yield 1\n  yield 2\n  yield 3\ng = f()\nfor x in g:\n  break\n"
        self.check(text + "print([x for x in g])", "[2, 3]")
        self.check("def f():\n  for x in [1, 2, 3]:\n    yield x\ndef h(g):\n  for x in g:\n    return x\ng = f()\nprint(h(g), h(g), h(g), h(g))", "1 2 3 None")

    def test_ends_of_runs_in_generators(self):
        run = self.finished("def f():\n  yield 1\n  while True:\n    pass\ng = f()\nnext(g)\nnext(g)", fuel=20)
        self.same((run.end, run.trace), (("steps",), (("main", 7), ("f", 4))))
        self.same(run.names(1), [])
        self.assertIn("generator f running", run.picture())


if __name__ == "__main__":
    unittest.main()
