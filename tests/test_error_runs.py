"""Points 60 to 62: errors, try and with."""

import unittest

from tests.running import RunCase

# A context whose end gives what it is made with, or raises it.
CONTEXT = """class W:
    def init(s, give=None):
        s.give = give
    def enter(s):
        print("enter")
        return s.give
    def leave(s, error):
        print("leave", error)
        if isinstance(s.give, Error):
            raise s.give
        return s.give
"""


class TestErrors(RunCase):
    """Point 60."""

    def test_traces(self):
        text = "def f(n):\n  if n:\n    f(n - 1)\n  raise Error(n)\nf(2)"
        self.error(text, ("Error", "0", (("main", 5), ("f", 3), ("f", 3), ("f", 4))))
        # The trace is set when the error is raised, not when it is made.
        self.error("def f():\n  return Error(1)\ne = f()\nraise e", ("Error", "1", (("main", 4),)))
        # Raised anew: the trace is set again; raised again: it stays.
        self.error("def f():\n  1 // 0\ntry:\n  f()\nexcept Error as e:\n  raise e", ("ZeroError", "", (("main", 6),)))
        self.error("def f():\n  1 // 0\ntry:\n  f()\nexcept Error as e:\n  raise", ("ZeroError", "", (("main", 4), ("f", 2))))
        self.error("def f():\n  1 // 0\ntry:\n  f()\nfinally:\n  pass", ("ZeroError", "", (("main", 4), ("f", 2))))
        self.error("def f():\n  raise\ntry:\n  1 // 0\nexcept:\n  f()", ("ZeroError", "", (("main", 4),)))

    def test_raise(self):
        self.fails("KindError", "raise 1", "raise None", "raise Error", "raise \"a\"", "class A:\n  pass\nraise A()", "raise Error() from 1",
                   "raise Error() from Error", "class A:\n  pass\nraise Error() from A()", "raise 1 from Error()", "raise None from None")
        self.fails("FlowError", "raise", "def f():\n  raise\nf()", "try:\n  1 // 0\nexcept:\n  pass\nraise")
        self.error("class E(Error):\n  pass\nraise E(5)", ("E", "5"))

    def test_faults_become_errors(self):
        self.check("def f(g):\n  try:\n    g()\n  except Error as e:\n    print(e, isinstance(e, Error), kind(e))\nf(lambda: 1 // 0)\nf(lambda: [][1])\n"
                   "f(lambda: {}[2])\nf(lambda: zz)\nf(lambda: \"\".zz)\nf(lambda: 1 + \"\")\nf(lambda: \"a\" * 501)\nf(lambda: int(\"\"))",
                   "ZeroError() True instance", "RangeError() True instance", "KeyError(2) True instance",
                   'NameError("zz") True instance', 'FieldError("zz") True instance', "KindError() True instance",
                   "SizeError() True instance", "ValueError() True instance")

    def test_the_only_attribute(self):
        self.error("try:\n  1 // 0\nexcept Error as e:\n  print(repr(e.message))\ne.cause", ("FieldError", '"cause"'), prints=["None"])

    def test_causes(self):
        self.check("a = KeyError(1)\ntry:\n  raise Error(2) from a\nexcept Error as e:\n  print(e.cause)\n  print(e.cause is a)", "KeyError(1)", "True")
        self.check("try:\n  raise Error(2) from None\nexcept Error as e:\n  print(e.cause)", "None")
        self.check("try:\n  try:\n    1 // 0\n  except Error as a:\n    raise Error(2)\nexcept Error as e:\n  print(e.cause, e.cause is a)",
                   "ZeroError() True")
        # One that is there stays, unless there is a from.
        self.check("e = Error(1)\ne.cause = 5\ntry:\n  try:\n    1 // 0\n  except:\n    raise e\nexcept Error:\n  print(e.cause)", "5")
        self.check("e = Error(1)\ne.cause = 5\ntry:\n  raise e from None\nexcept Error:\n  print(e.cause)", "None")
        self.check("e = Error(1)\ne.cause = 5\ntry:\n  raise e from KeyError(2)\nexcept Error:\n  print(e.cause)", "KeyError(2)")
        # The class's attribute is no own one.
        self.check("class E(Error):\n  cause = 7\ntry:\n  try:\n    1 // 0\n  except:\n    raise E()\nexcept E as e:\n  print(e.cause)", "ZeroError()")
        # An error is not its own cause, but it may be made so.
        self.check("try:\n  1 // 0\nexcept Error as e:\n  try:\n    raise e\n  except Error as f:\n    pass\ntry:\n  f.cause\nexcept FieldError:\n"
                   "  print(e is f)", "True")
        self.check("e = Error(1)\ntry:\n  raise e from e\nexcept Error:\n  print(e.cause is e)", "True")
        # A bare raise changes no cause.
        self.check("try:\n  try:\n    1 // 0\n  except:\n    try:\n      [][0]\n    except:\n      raise\nexcept Error as e:\n  print(e, e.cause)",
                   "RangeError() ZeroError()")

    def test_causes_beyond_60_attributes(self):
        rows = "".join("e.x{} = {}\n".format(at, at) for at in range(59))
        self.check("e = Error(1)\n" + rows + "try:\n  raise e from None\nexcept Error:\n  print(e.cause)\ntry:\n  e.y = 1\nexcept SizeError as f:\n"
                   "  print(f)\ne.x0 = 5\nprint(e.x0)", "None", "SizeError()", "5")
        self.check("e = Error(1)\n" + rows + "try:\n  try:\n    1 // 0\n  except:\n    raise e\nexcept Error:\n  print(e.cause, e.x58)", "ZeroError() 58")

    def test_which_error_is_handled(self):
        # The innermost frame goes first, and in it the handling that began last.
        self.check("def f():\n  try:\n    [][0]\n  except:\n    try:\n      {}[1]\n    except:\n      pass\n    raise Error(1)\ntry:\n  1 // 0\nexcept:\n"
                   "  try:\n    f()\n  except Error as e:\n    print(e, e.cause, e.cause.cause)", "Error(1) RangeError() ZeroError()")
        self.check("def f():\n  x\ntry:\n  1 // 0\nexcept:\n  try:\n    f()\n  except Error as e:\n    print(e, e.cause)", 'NameError("x") ZeroError()')
        # Over behind its block, also if that is left.
        self.error("try:\n  1 // 0\nexcept:\n  pass\nx", ("NameError", '"x"'))
        self.error("for n in [1]:\n  try:\n    1 // 0\n  except:\n    break\nx", ("NameError", '"x"'))
        self.error("def f():\n  try:\n    1 // 0\n  except:\n    return 1\nf()\nx", ("NameError", '"x"'))
        # A handler within a handler.
        self.check("try:\n  1 // 0\nexcept:\n  try:\n    [][0]\n  except:\n    pass\n  try:\n    raise\n  except Error as e:\n    print(e)", "ZeroError()")


class TestTry(RunCase):
    """Point 61."""

    def test_clauses(self):
        text = "try:\n  raise {}\nexcept KeyError:\n  print(1)\nexcept FindError as e:\n  print(2, e)\nexcept (ZeroError, E) as e:\n  print(3, e)\nexcept:\n  print(4)"
        text = "class E(SizeError):\n  pass\nclass F(E):\n  pass\n" + text
        for error, wanted in (("KeyError()", "1"), ("RangeError(5)", "2 RangeError(5)"), ("FindError()", "2 FindError()"),
                              ("ZeroError()", "3 ZeroError()"), ("E()", "3 E()"), ("F(1)", "3 F(1)"), ("SizeError()", "4"), ("Error()", "4")):
            self.check(text.format(error), wanted)
        self.error("try:\n  1 // 0\nexcept KeyError:\n  pass", ("ZeroError", "", (("main", 2),)))
        self.error("try:\n  1 // 0\nexcept ():\n  pass", ("ZeroError", "", (("main", 2),)))

    def test_kinds_of_classes(self):
        for cls in ("1", "None", "\"a\"", "len", "Error()", "[Error]", "A", "(Error, A)", "(ZeroError, 1)", "((Error,),)", "(1, ZeroError)"):
            self.error("class A:\n  pass\ntry:\n  1 // 0\nexcept " + cls + ":\n  pass", ("KindError", "", (("main", 5),)),
                       ("ZeroError", "", (("main", 4),)))
        # A clause that is not reached is not asked, and evaluated with the error being handled.
        self.check("try:\n  1 // 0\nexcept ZeroError:\n  print(1)\nexcept zz:\n  pass", "1")
        self.error("try:\n  1 // 0\nexcept zz:\n  pass", ("NameError", '"zz"', (("main", 3),)), ("ZeroError", ""))

    def test_names(self):
        self.check("try:\n  1 // 0\nexcept Error as e:\n  pass\nprint(e)", "ZeroError()")
        self.check("def f():\n  try:\n    1 // 0\n  except Error as e:\n    pass\n  return lambda: e\nprint(f()())", "ZeroError()")
        self.check("e = 1\ntry:\n  1 // 0\nexcept KeyError as e:\n  pass\nexcept:\n  print(e)", "1")
        # Without a name nothing is bound.
        run = self.check("try:\n  1 // 0\nexcept ZeroError:\n  pass\ntry:\n  1 // 0\nexcept:\n  pass")
        self.same(run.picture(), "globals\nobjects")
        run = self.check("class W:\n  def enter(s):\n    pass\n  leave = lambda s, e: None\nwith W():\n  pass\ndel W")
        self.same(run.picture(), "globals\nobjects")

    def test_else(self):
        self.check("try:\n  print(1)\nexcept:\n  print(2)\nelse:\n  print(3)\nfinally:\n  print(4)", "1", "3", "4")
        self.check("try:\n  1 // 0\nexcept:\n  print(2)\nelse:\n  print(3)\nfinally:\n  print(4)", "2", "4")
        # Not for return, break and continue; its errors are not handled by these clauses.
        self.check("def f():\n  try:\n    return 1\n  except:\n    pass\n  else:\n    print(2)\nprint(f())", "1")
        self.check("for n in [1, 2]:\n  try:\n    if n == 1:\n      continue\n    break\n  except:\n    pass\n  else:\n    print(2)\nprint(n)", "2")
        self.error("try:\n  pass\nexcept:\n  print(1)\nelse:\n  1 // 0\nfinally:\n  print(2)", ("ZeroError", ""), prints=["2"])
        self.error("try:\n  x\nexcept NameError:\n  1 // 0\nexcept ZeroError:\n  print(1)", ("ZeroError", ""), ("NameError", '"x"'), prints=[])

    def test_finally_for_each_way(self):
        text = "def f(n):\n  for i in [1, 2]:\n    try:\n      if n == 1:\n        return print(\"value\")\n      if n == 2:\n        break\n      if n == 3:\n" \
               "        continue\n      if n == 4:\n        1 // 0\n      print(\"end\")\n    finally:\n      print(\"final\", i)\n  return \"out\"\n"
        self.check(text + "print(f(0))", "end", "final 1", "end", "final 2", "out")
        self.check(text + "print(f(1))", "value", "final 1", "None")
        self.check(text + "print(f(2))", "final 1", "out")
        self.check(text + "print(f(3))", "final 1", "final 2", "out")
        self.error(text + "f(4)", ("ZeroError", "", (("main", 16), ("f", 11))), prints=["final 1"])

    def test_the_value_is_held(self):
        self.check("def f():\n  x = 1\n  try:\n    return x\n  finally:\n    x = 2\nprint(f())", "1")
        self.check("def f():\n  x = [1]\n  try:\n    return x\n  finally:\n    x.append(2)\nprint(f())", "[1, 2]")

    def test_finally_that_is_left_itself(self):
        starts = ("pass", "return 1", "break", "continue", "1 // 0")
        text = "def f():\n  for i in [5, 6]:\n    try:\n      {}\n    finally:\n      {}\n    print(\"behind\")\n  return i\n"
        for start in starts:
            self.check(text.format(start, "return 9") + "print(f())", "9")
            self.check(text.format(start, "break") + "print(f())", "5")
            self.check(text.format(start, "continue") + "print(f())", "6")
            chain = [("NameError", '"zz"', (("main", 9), ("f", 6)))]
            if start == "1 // 0":
                chain.append(("ZeroError", "", (("main", 9), ("f", 4))))
            self.error(text.format(start, "zz") + "f()", *chain, prints=[])

    def test_handled_in_finally(self):
        self.error("try:\n  1 // 0\nfinally:\n  raise", ("ZeroError", "", (("main", 2),)))
        self.error("try:\n  pass\nfinally:\n  raise", ("FlowError", ""))
        self.error("def f():\n  try:\n    return 1\n  finally:\n    raise\nf()", ("FlowError", ""))
        # Handled by a clause: it is over when the last part runs.
        self.error("try:\n  1 // 0\nexcept:\n  pass\nfinally:\n  raise", ("FlowError", ""))
        self.error("try:\n  1 // 0\nexcept:\n  zz\nfinally:\n  print(1)\n  [][0]", ("RangeError", ""), ("NameError", '"zz"'), ("ZeroError", ""),
                   prints=["1"])
        # Behind the part that dropped it, it is over.
        self.error("for n in [1]:\n  try:\n    1 // 0\n  finally:\n    break\nraise", ("FlowError", ""))

    def test_nested(self):
        self.check("def f():\n  try:\n    try:\n      return 1\n    finally:\n      print(2)\n  finally:\n    print(3)\nprint(f())", "2", "3", "1")
        self.check("try:\n  try:\n    1 // 0\n  finally:\n    print(1)\nexcept ZeroError:\n  print(2)", "1", "2")
        self.check("for a in [1, 2]:\n  for b in [3]:\n    try:\n      try:\n        continue\n      finally:\n        print(a, b)\n    finally:\n      break\n"
                   "  else:\n    print(\"else\")", "1 3", "2 3")
        self.check("while True:\n  try:\n    while True:\n      break\n    print(1)\n    break\n  finally:\n    print(2)", "1", "2")

    def test_values_that_are_held_are_dropped(self):
        self.check("def f(a, b):\n  return a, b\ndef g():\n  try:\n    return [7, f(1, [8, 1 // 0])]\n  except:\n    return [9]\nprint([1, g(), f(2, g())])",
                   "[1, [9], (2, [9])]")
        self.check("x = []\nfor n in [1, 2]:\n  try:\n    x.append([n, [n, zz]])\n  except NameError:\n    x.append(-n)\nprint(x)", "[-1, -2]")


class TestWith(RunCase):
    """Point 62."""

    def test_ends(self):
        self.check(CONTEXT + "with W(5) as x:\n  print(x)\nprint(6)", "enter", "5", "leave None", "6")
        self.check(CONTEXT + "with W():\n  pass", "enter", "leave None")
        self.check(CONTEXT + "def f():\n  with W(True):\n    return 7\nprint(f())", "enter", "leave None", "7")
        self.check(CONTEXT + "for n in [1, 2]:\n  with W(1):\n    continue\n  print(9)\nprint(n)", "enter", "leave None", "enter", "leave None", "2")
        self.check(CONTEXT + "for n in [1, 2]:\n  with W(1):\n    break\nprint(n)", "enter", "leave None", "1")
        self.check(CONTEXT + "with W(1):\n  1 // 0\n  print(2)\nprint(3)", "enter", "leave ZeroError()", "3")
        for give in ("None", "False", "0", "\"\"", "[]"):
            self.error(CONTEXT + "with W(" + give + "):\n  1 // 0", ("ZeroError", "", (("main", 13),)), prints=["enter", "leave ZeroError()"])
        for give in ("True", "2", "\"a\"", "[0]"):
            self.check(CONTEXT + "with W(" + give + "):\n  1 // 0", "enter", "leave ZeroError()")

    def test_the_result_is_ignored_without_an_error(self):
        self.check(CONTEXT + "def f():\n  for n in [1]:\n    with W(True):\n      return 5\n  return 6\nprint(f())", "enter", "leave None", "5")

    def test_errors_of_leave(self):
        self.error(CONTEXT + "with W(KeyError(1)):\n  1 // 0", ("KeyError", "1", (("main", 12), ("leave", 10))), ("ZeroError", "", (("main", 13),)),
                   prints=["enter", "leave ZeroError()"])
        self.error(CONTEXT + "with W(KeyError(1)):\n  pass", ("KeyError", "1", (("main", 12), ("leave", 10))), prints=["enter", "leave None"])
        self.check(CONTEXT + "def f():\n  try:\n    with W(KeyError(1)):\n      return 2\n  except KeyError:\n    return 3\nprint(f())",
                   "enter", "leave None", "3")

    def test_kinds(self):
        for row in ("1", "None", "W", "[]", "Error()", "len"):
            self.error(CONTEXT + "with " + row + ":\n  pass", ("KindError", "", (("main", 12),)), prints=[])
        for items in ("  def enter(s):\n    print(1)", "  def leave(s, e):\n    pass", "  enter = 1\n  def leave(s, e):\n    pass",
                      "  leave = len\n  def enter(s):\n    print(1)"):
            self.error("class A:\n" + items + "\nwith A():\n  pass", ("KindError", "", ), prints=[])
        # Both are asked of the class, not of the instance.
        self.error("class A:\n  pass\na = A()\na.enter = lambda: 1\na.leave = lambda e: 1\nwith a:\n  pass", ("KindError", ""))
        self.check("class A:\n  def enter(s):\n    return 1\n  def leave(s, e):\n    print(2)\na = A()\na.enter = 5\nwith a as b:\n  a.leave = 7\n  print(b)",
                   "1", "2")
        self.error("class A:\n  def enter(s, x):\n    pass\n  def leave(s, e):\n    pass\nwith A():\n  print(9)", ("KindError", "", (("main", 6),)), prints=[])
        self.error("class A:\n  def enter(s):\n    pass\n  def leave(s):\n    pass\nwith A():\n  print(9)", ("KindError", "", (("main", 6),)), prints=["9"])
        # The error is being handled until the call has failed.
        self.error("class A:\n  def enter(s):\n    pass\n  def leave(s):\n    pass\nwith A():\n  1 // 0", ("KindError", "", (("main", 6),)),
                   ("ZeroError", "", (("main", 7),)))

    def test_inherited(self):
        self.check(CONTEXT + "class V(W):\n  x = 1\nwith V(3) as n:\n  print(n)", "enter", "3", "leave None")
        self.check("class E(Error):\n  def enter(s):\n    return 1\n  def leave(s, e):\n    return e\nwith E() as x:\n  print(x)\n  zz\nprint(2)", "1", "2")

    def test_what_is_handled(self):
        self.error(CONTEXT + "def f():\n  raise\nclass V(W):\n  def leave(s, e):\n    f()\nwith V():\n  1 // 0", ("ZeroError", "", (("main", 18),)))
        self.error(CONTEXT + "class V(W):\n  def leave(s, e):\n    raise\nwith V():\n  pass", ("FlowError", ""))
        # Dropped: it is not being handled any more.
        self.error(CONTEXT + "with W(1):\n  1 // 0\nraise", ("FlowError", ""))
        self.error(CONTEXT + "try:\n  with W():\n    1 // 0\nexcept:\n  pass\nraise", ("FlowError", ""))
        # In the body nothing of it is handled.
        self.error(CONTEXT + "with W():\n  raise", ("FlowError", ""))

    def test_leave_that_yields(self):
        # A generator is true: the error is dropped, and its body never runs.
        self.check("class A:\n  def enter(s):\n    yield 1\n  def leave(s, e):\n    print(9)\n    yield\nwith A() as g:\n  print(g)\n  1 // 0\nprint(2)",
                   "<generator enter>", "2")

    def test_depth(self):
        text = CONTEXT + "with W():\n  1 // 0"
        self.error(text, ("DepthError", "", (("main", 12),)), depth=1)
        # Enough for init, but not for enter.
        self.error("class A:\n  def enter(s):\n    f()\n  def leave(s, e):\n    pass\ndef f():\n  pass\nwith A():\n  pass",
                   ("DepthError", "", (("main", 8), ("enter", 3))), depth=2)
        self.error("class A:\n  def enter(s):\n    pass\n  def leave(s, e):\n    f()\ndef f():\n  pass\nwith A():\n  1 // 0",
                   ("DepthError", "", (("main", 8), ("leave", 5))), ("ZeroError", ""), depth=2)

    def test_nested(self):
        self.check(CONTEXT + "with W(0) as a:\n  with W(1) as b:\n    1 // 0\n  print(a, b)", "enter", "enter", "leave ZeroError()", "0 1", "leave None")
        self.error(CONTEXT + "with W(0):\n  with W(0):\n    1 // 0", ("ZeroError", ""), prints=["enter", "enter", "leave ZeroError()", "leave ZeroError()"])
        self.check(CONTEXT + "def f():\n  try:\n    with W():\n      return 1\n  finally:\n    print(2)\nprint(f())", "enter", "leave None", "2", "1")


if __name__ == "__main__":
    unittest.main()
