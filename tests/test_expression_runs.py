"""Points 49 and 55 to 59: expressions, names, statements, calls, and what the run does itself."""

import unittest

from tests.running import RunCase

# A function that tells that it is evaluated.
TELL = "def t(x):\n  print(x)\n  return x\n"


class TestOrder(RunCase):
    """Point 55: the order of evaluation."""

    def order(self, row, *prints):
        self.check(TELL + row, *prints)

    def test_expressions(self):
        self.order("t(1) + t(2) * t(3)", "1", "2", "3")
        self.order("t(1) - -t(2)", "1", "2")
        self.order("[t(1), (t(2), t(3)), t(4)]", "1", "2", "3", "4")
        self.order("{t(1): t(2), t(3): t(4)}", "1", "2", "3", "4")
        self.order("t([5])[t(0)]", "[5]", "0")
        self.order("t(\"abc\")[t(0):t(2):t(1)]", "abc", "0", "2", "1")
        self.order("t(\"abc\")[:t(2)]", "abc", "2")
        self.order("t(len)(t(\"a\"))", "<builtin len>", "a")
        self.order("def f(a, b, c):\n  return\nt(f)(t(1), c=t(2), b=t(3))", "<function f>", "1", "2", "3")
        self.order("lambda a=t(1), b=t(2): t(3)", "1", "2")
        self.order("t(2) if t(1) else t(3)", "1", "2")
        self.order("t(2) if t(0) else t(3)", "0", "3")
        self.order("t(t(1) + t(2))", "1", "2", "3")
        self.order("not t(1)", "1")

    def test_short_circuits(self):
        self.order("print(repr(t(0) and t(2)))", "0", "0")
        self.order("print(repr(t(1) and t(2) and t(3)))", "1", "2", "3", "3")
        self.order("print(repr(t(1) and t(\"\") and t(3)))", "1", "", '""')
        self.order("print(repr(t(0) or t([]) or t(3) or t(4)))", "0", "[]", "3", "3")
        self.order("print(repr(t(0) or t([])))", "0", "[]", "[]")
        self.order("print(t(0) or t(1) and t(2))", "0", "1", "2", "2")

    def test_chains_of_comparisons(self):
        self.order("print(t(1) < t(2) < t(3))", "1", "2", "3", "True")
        self.order("print(t(1) < t(1) < t(3))", "1", "1", "False")
        self.order("print(t(1) < t(2) > t(1) == t(1))", "1", "2", "1", "1", "True")
        self.order("print(t(1) < t(2) > t(0) != t(5) <= t(6) is t(6))", "1", "2", "0", "5", "6", "6", "True")
        self.order("print(t(1) < t(2) > t(0) != t(5) <= t(4) is t(6))", "1", "2", "0", "5", "4", "False")
        self.order("print(t(1) < t(2) in t([3]) == t(1))", "1", "2", "[3]", "False")
        self.order("print((t(1) < t(2)) == t(True))", "1", "2", "True", "True")
        # The comparison goes ahead of the next operand.
        self.error(TELL + "t(1) < t(\"a\") < t(3)", ("KindError", ""), prints=["1", "a"])

    def test_dicts(self):
        # All keys and values are evaluated before the first pair is stored.
        self.error(TELL + "{t([]): t(1), t(2): t(3)}", ("KindError", ""), prints=["[]", "1", "2", "3"])
        self.check("print({1: 2, \"a\": 3, 1: 4})", '{1: 4, "a": 3}')
        self.check("print({(1, 2): 3, (1, 2): 4}, {True: 1, 1: 2})", "{(1, 2): 4} {True: 1, 1: 2}")
        self.check("print({}, [], (), (1,), [[]])", "{} [] () (1,) [[]]")

    def test_statements(self):
        self.order("a = [0]\nt(a)[t(0)] = t(5)", "5", "[0]", "0")
        self.order("class A:\n  pass\na = A()\nt(a).x = t(5)", "5", "<A object>")
        self.order("a = [0]\nt(a)[t(0)] += t(5)\nprint(a)", "[0]", "0", "5", "[5]")
        self.order("class A:\n  x = 1\na = A()\nt(a).x += t(5)\nprint(a.x, A.x)", "<A object>", "5", "6 1")
        self.order("a = [0, 1]\ndel t(a)[t(1)]\nprint(a)", "[0, 1]", "1", "[0]")
        self.order("def f(a=t(1), b=t(2)):\n  pass", "1", "2")
        self.order("class A:\n  a = t(1)\n  def f(b=t(2)):\n    pass\n  c = t(3)", "1", "2", "3")
        self.order("class B:\n  pass\nclass A(B):\n  a = t(1)\nprint(A)", "1", "<class A>")
        self.error(TELL + "class A(zzz):\n  a = t(1)", ("NameError", '"zzz"'), prints=[])
        self.error(TELL + "x = 5\nclass A(x):\n  a = t(1)", ("KindError", ""), prints=["1"])
        self.error(TELL + "raise t(1) from t(2)", ("KindError", ""), prints=["1", "2"])
        self.order("a = [0]\nb = [1]\na[t(0)], b[t(0)] = t([7, 8])\nprint(a, b)", "[7, 8]", "0", "0", "[7] [8]")
        # A value is loaded before the right side is evaluated.
        self.check("x = 1\ndef f():\n  global x\n  x = 5\n  return 2\nx += f()\nprint(x)", "3")

    def test_comprehensions(self):
        self.order("[t(n) for n in t([1, 2]) if t(n > 1)]", "[1, 2]", "False", "True", "2")
        self.values(("[n for n in range(3)]", "[0, 1, 2]"), ("[n * m for n, m in [(1, 2), [3, 4]]]", "[2, 12]"),
                    ("[n for n, in [(1,)]]", "[1]"), ("[c for c in \"ab\"]", '["a", "b"]'), ("[k for k in {1: 2}]", "[1]"),
                    ("[[m for m in range(n)] for n in range(3)]", "[[], [0], [0, 1]]"),
                    ("[n for n in [m + 1 for m in range(2)] if n > 1]", "[2]"), ("[n for n in iter([1, 2])]", "[1, 2]"),
                    ("[f() for f in [lambda: n for n in range(3)]]", "[2, 2, 2]"),
                    ("[f() for f in [lambda n=n: n for n in range(3)]]", "[0, 1, 2]"),
                    ("(lambda k: [n + k for n in [1]])(5)", "[6]"))
        self.check("n = 5\n[n for n in [1, 2]]\nprint(n)", "5")
        self.error("[n for n in 5]", ("KindError", "", (("main", 1), ("comp", 1))))
        self.error("[n for n, m in [1]]", ("KindError", "", (("main", 1), ("comp", 1))))
        self.error("[n for n, m in [(1, 2, 3)]]", ("ValueError", "", (("main", 1), ("comp", 1))))
        self.error("[m for n in [1]]", ("NameError", '"m"'))

    def test_sizes_of_comprehensions(self):
        text = "g = [1] * 200\nx = [n for n in g]\nprint(len(x))\n"
        self.check(text, "200")
        text = "def f():\n  n = 0\n  while n < 201:\n    yield n\n    n += 1\n[x for x in f()]"
        self.error(text, ("SizeError", "", (("main", 6), ("comp", 6))))
        self.check(text.replace("201", "200"))

    def test_values_of_constants(self):
        self.values(("None", "None"), ("True", "True"), ("12345678901234567890", "12345678901234567890"), ("'a\"'", '"a\\""'),
                    ("(1, [2])", "(1, [2])"), ("-3 // 2, -3 mod 2", "(-2, 1)"), ("1 if [] else 2", "2"))


class TestNames(RunCase):
    """Point 56."""

    def test_unbound_names(self):
        self.fails("NameError", "x", "x += 1", "del x", "def f():\n  x\n  x = 1\nf()", "def f():\n  del x\nf()",
                   "def f():\n  x += 1\nf()", "def f():\n  x = 1\n  del x\n  x\nf()", "def f():\n  x = 1\n  del x\n  del x\nf()",
                   "def f():\n  def g():\n    return x\n  g()\n  x = 1\nf()", "def f():\n  global x\n  del x\nf()",
                   "def f():\n  def g():\n    nonlocal x\n    del x\n    del x\n  x = 1\n  g()\nf()",
                   "def f(x):\n  def g():\n    return x\n  del x\n  return g()\nf(1)", "x = 1\ndel x\nx",
                   "def f(x=1):\n  del x\n  return lambda: x\nf()()", "[y for x in [1] if y]".replace("y", "x").replace("for x", "for z"),
                   value='"x"')

    def test_builtin_names(self):
        names = "print len range str repr int abs min max list tuple isinstance iter next take kind".split()
        for name in names:
            self.check("print(" + name + ")", "<builtin " + name + ">")
            self.fails("NameError", "del " + name, value='"' + name + '"')
            self.check("x = " + name + "\n" + name + " = 5\nif " + name + " != 5:\n  1 // 0\ndel " + name + "\nif " + name +
                       " is not x:\n  1 // 0")
        for name in "Error KindError KeyError RangeError StopError FlowError".split():
            self.check("print(" + name + ")", "<class " + name + ">")
            self.fails("NameError", "del " + name, value='"' + name + '"')
        self.check("def f():\n  return len(\"abc\")\nprint(f())\nlen = lambda x: 7\nprint(f())\ndel len\nprint(f())", "3", "7", "3")
        self.check("def f(len):\n  return len\nprint(f(1), len)", "1 <builtin len>")
        self.fails("NameError", "def f():\n  len\n  len = 1\nf()", value='"len"')
        self.check("Error = KeyError\ntry:\n  {}[1]\nexcept Error as e:\n  print(e)\nprint(kind(Error))", "KeyError(1)", "class")

    def test_global_names(self):
        self.check("def f():\n  global x\n  x = 1\nf()\nprint(x)\nx = 2\nf()\nprint(x)", "1", "1")
        self.check("def f():\n  return x\nx = 3\nprint(f())", "3")
        self.check("x = 1\ndef f():\n  x = 2\n  return x\nprint(f(), x)", "2 1")
        self.check("def f():\n  global g\n  def g():\n    return 5\nf()\nprint(g())", "5")
        self.check("def f():\n  global A, n, e\n  class A:\n    pass\n  for n in [4]:\n    pass\n  try:\n    1 // 0\n  except Error as e:\n"
                   "    pass\nf()\nprint(A, n, e)", "<class A> 4 ZeroError()")

    def test_cells(self):
        self.check("def f():\n  n = 0\n  def up():\n    nonlocal n\n    n += 1\n    return n\n  def get():\n    return n\n  return up, get\n"
                   "a, b = f()\na()\na()\nprint(b())\nc, d = f()\nprint(d(), b())", "2", "0 2")
        self.check("def f(a, b=2):\n  def g(c):\n    a.append(c)\n    return a, b, c\n  return g\nprint(f([1])(3))", "([1, 3], 2, 3)")
        self.check("def f():\n  x = 1\n  g = lambda: x\n  x = 2\n  return g()\nprint(f())", "2")
        self.check("def f(n):\n  if n == 0:\n    return lambda: n\n  return f(n - 1)\nprint(f(3)())", "0")
        self.check("def f():\n  def g(n):\n    if n:\n      return g(n - 1)\n    return 7\n  return g(3)\nprint(f())", "7")
        self.check("def f(x):\n  def g():\n    def h():\n      nonlocal x\n      x += 1\n      return x\n    return h\n  return g()\nh = f(1)\nh()\n"
                   "print(h())", "3")
        self.check("def f(x):\n  class A:\n    y = x\n    def g(s):\n      return x\n  x += 1\n  return A\nprint(f(1).y, f(1)().g())", "1 2")

    def test_cells_behind_defaults(self):
        self.check("def f(k):\n  def g(a, b=2, c=3):\n    return a, b, c, k\n  return g\nprint(f(9)(1), f(8)(1, 5))", "(1, 2, 3, 9) (1, 5, 3, 8)")
        self.check("def f(j, k):\n  return lambda a=j: (a, j, k)\ng = f(1, 2)\nprint(g(), g(5))", "(1, 1, 2) (5, 1, 2)")

    def test_cells_that_are_emptied(self):
        told = "  try:\n    print(g())\n  except NameError as e:\n    print(e)\n"
        self.check("def f():\n  x = 1\n  g = lambda: x\n  del x\n" + told + "  x = 2\n" + told + "f()", 'NameError("x")', "2")
        self.check("def f():\n  x = 1\n  def g():\n    return x\n  def h():\n    nonlocal x\n    del x\n  h()\n" + told + "  x = 3\n" + told +
                   "  h()\n" + told + "f()", 'NameError("x")', "3", 'NameError("x")')
        self.error("def f():\n  x = 1\n  g = lambda: x\n  del x\n  del x\nf()", ("NameError", '"x"', (("main", 6), ("f", 5))))
        # The global name of that spelling is another one.
        self.check("x = 7\ndef f():\n  x = 1\n  g = lambda: x\n  del x\n  x = 2\n  return g()\nprint(f(), x)", "2 7")

    def test_names_that_statements_bind(self):
        self.check("def f():\n  for a, b in [(1, 2), (3, 4)]:\n    pass\n  return a, b\nprint(f())", "(3, 4)")
        self.check("for n in [1, 2]:\n  pass\nprint(n)", "2")
        self.check("try:\n  [][0]\nexcept RangeError as e:\n  pass\nprint(e)", "RangeError()")


class TestUnitsInEachPlace(RunCase):
    """Functions, lambdas and comprehensions in each place of an expression and of a statement."""

    def test_expressions(self):
        forms = (
            ("{}", "[5]"), ("({}, 1)", "([5], 1)"), ("(1, {})", "(1, [5])"), ("[{}, 1, {}]", "[[5], 1, [5]]"),
            ("{{1: {}, 2: {}}}", "{1: [5], 2: [5]}"), ("{{({})[0]: 1}}", "{5: 1}"), ("-({})[0]", "-5"), ("not {}", "False"),
            ("{} + [1]", "[5, 1]"), ("[1] + {}", "[1, 5]"), ("{} * 2 + {}", "[5, 5, 5]"), ("{} == [5] == {}", "True"),
            ("[4] < {} < [6]", "True"), ("{} and 1", "1"), ("1 and {}", "[5]"), ("0 or {} or 2", "[5]"), ("1 if {} else 2", "1"),
            ("{} if 1 else 2", "[5]"), ("2 if 0 else {}", "[5]"), ("[n + {} for n in [{}]]", "[[5, 5]]"),
            ("[n for n in {} if {}]", "[5]"), ("(lambda: {})()", "[5]"),
            ("(lambda a={}, b={}: a + b + {})()", "[5, 5, 5]"), ("len({})", "1"), ("t({}, b={})", "([5], [5])"),
            ("t(b={}, a={})", "([5], [5])"), ("({}).pop()", "5"), ("({})[0]", "5"), ("[0, 1, 2, 3, 4, 6][({})[0]]", "6"),
            ("({})[:({})[0]]", "[5]"), ("[7, 8][({})[0] - 4:]", "[8]"), ("\"abcdefg\"[::({})[0]]", '"af"'))
        for unit in ("[k for k in [5]]", "(lambda k: [k])(5)", "(lambda: [k for k in [5]])()", "[k for k in (lambda: [5])()]"):
            for form, wanted in forms:
                # Each unit on a row of its own: a row has its limit.
                self.values((form.format(*["\n" + unit] * form.count("{}")), wanted), before="def t(a, b):\n  return a, b")

    def test_statements(self):
        unit = "(lambda: [k for k in [5]])()"
        before = "class E(Error):\n  pass\nx = [0, 1, 2, 3, 4, 6]\n"
        for text, wanted in (
                ("x = {0}\nprint(x)", "[5]"), ("x[({0})[0]] = {0}\nprint(x[5])", "[5]"), ("a, x[({0})[0]] = {0}, 1\nprint(a, x[5])", "[5] 1"),
                ("a = E()\n(lambda: a)().y = {0}\nprint(a.y)", "[5]"), ("x += {0}\nprint(x)", "[0, 1, 2, 3, 4, 6, 5]"),
                ("x[({0})[0]] += ({0})[0]\nprint(x[5])", "11"), ("del x[({0})[0]]\nprint(x)", "[0, 1, 2, 3, 4]"),
                ("if {0}:\n  print({0})\nelif {0}:\n  pass", "[5]"), ("if 0:\n  {0}\nelif {0}:\n  print({0})\nelse:\n  {0}", "[5]"),
                ("if 0:\n  {0}\nelse:\n  print({0})", "[5]"), ("while {0}:\n  print({0})\n  break", "[5]"),
                ("while not {0}:\n  {0}\nelse:\n  print({0})", "[5]"), ("for n in {0}:\n  print({0}, n)\nelse:\n  {0}", "[5] 5"),
                ("for n in []:\n  {0}\nelse:\n  print({0})", "[5]"), ("def f(a={0}, b={0}):\n  return a, b, {0}\nprint(f())", "([5], [5], [5])"),
                ("class A:\n  a = {0}\n  def f(s, b={0}):\n    return b\n  c = {0}\nprint(A.a, A().f(), A.c)", "[5] [5] [5]"),
                ("try:\n  raise Error({0}) from E({0})\nexcept (lambda: Error)() as e:\n  print({0}, e, e.cause)", "[5] Error([5]) E([5])"),
                ("try:\n  {0}\nexcept (lambda: Error)():\n  {0}\nelse:\n  print({0})\nfinally:\n  {0}", "[5]"),
                ("try:\n  {0}\nfinally:\n  print({0})", "[5]"), ("def f():\n  yield {0}\n  a = yield {0}\nprint([n for n in f()])", "[[5], [5]]"),
                ("class W:\n  def enter(s):\n    return {0}\n  def leave(s, e):\n    {0}\nwith (lambda: W())() as w:\n  print({0}, w)", "[5] [5]")):
            self.check(before + text.format(unit), wanted)
            # The units behind the statement keep their numbers.
            self.check(before + text.format(unit) + "\nprint((lambda: 8)())", wanted, "8")


class TestStatements(RunCase):
    """Point 57."""

    def test_assign(self):
        self.check("a, b = 1, 2\na, b = b, a\nprint(a, b)", "2 1")
        self.check("a, = [5]\nprint(a)", "5")
        self.check("x = [1, 2]\nx[0], x[1] = x[1], x[0]\nprint(x)", "[2, 1]")
        self.check("i = 0\nx = [7, 8]\ni, x[i] = 1, 9\nprint(x)", "[7, 9]")
        self.check("class A:\n  pass\na = A()\na.x, y = 1, 2\nprint(a.x, y)", "1 2")
        self.fails("KindError", "a, b = 1", "a, b = \"ab\"", "a, b = {1: 2, 3: 4}", "a, b = None", "a, = iter([1])")
        self.fails("ValueError", "a, b = 1, 2, 3", "a, b = [1]", "a, = ()", "a, b = []")
        # All items are taken first: none is bound if there are too many.
        self.error("a, b = 1, 2, 3", ("ValueError", ""))
        self.check("a = 0\ntry:\n  a, b = 1, 2, 3\nexcept ValueError:\n  print(a)", "0")
        self.error("x = [0]\ntry:\n  x[0], x[1] = 1, 2\nfinally:\n  print(x)", ("RangeError", ""), prints=["[1]"])
        self.fails("KindError", "x = 1\nx.a = 2", "x = (1,)\nx[0] = 2", "x = \"a\"\nx[0] = \"b\"", "Error.x = 1",
                   "class A:\n  a = 1\nA.a = 2")

    def test_augment(self):
        self.check("x = [1]\ny = x\nx += [2]\nprint(x, y)", "[1, 2] [1]")
        self.check("x = 7\nx -= 1\nx *= 4\nx //= 5\nx += -1\nprint(x)", "3")
        self.check("x = {\"a\": [1]}\ny = x[\"a\"]\nx[\"a\"] += [2]\nprint(x, y)", '{"a": [1, 2]} [1]')
        self.check("class A:\n  n = 1\na = A()\na.n += 1\nprint(a.n, A.n)", "2 1")
        self.check("x = [1, 2, 3]\nx[-1] *= 5\nprint(x)", "[1, 2, 15]")
        self.fails("KindError", "x = 1\nx += \"a\"", "x = (1, 2)\nx[0] += 1", "x = [1]\nx[None] += 1")
        self.fails("ZeroError", "x = 1\nx //= 0")
        self.fails("RangeError", "x = []\nx[0] += 1")
        self.fails("FieldError", "class A:\n  pass\nA().n += 1", value='"n"')
        self.fails("KeyError", "x = {}\nx[5] += 1", value="5")
        self.check("x = 1, 2\nx += 3, 4\nprint(x)", "(1, 2, 3, 4)")
        self.check("class A:\n  n = 1\na = A()\nx = [0, 0]\nfor i in [0, 1]:\n  for j in [5, 6]:\n    a.n += j\n    x[i] += j\nprint(a.n, x)", "23 [11, 11]")

    def test_delete(self):
        self.check("x = {1: 2, 3: 4}\ndel x[1]\nprint(x)", "{3: 4}")
        self.check("class A:\n  n = 1\na = A()\na.n = 2\ndel a.n\nprint(a.n)", "1")
        self.fails("FieldError", "class A:\n  n = 1\ndel A().n", value='"n"')
        self.fails("KindError", "class A:\n  n = 1\ndel A.n", "x = (1,)\ndel x[0]")
        self.check("def f():\n  x = 1\n  del x\n  x = 2\n  return x\nprint(f())", "2")

    def test_loops(self):
        self.check("n = 0\nwhile True:\n  n += 1\n  if n == 2:\n    continue\n  if n > 3:\n    break\n  print(n)\nelse:\n  print(9)", "1", "3")
        self.check("n = 2\nwhile n:\n  n -= 1\nelse:\n  print(9)", "9")
        self.check("for n in [1, 2, 3]:\n  if n == 2:\n    break\n  print(n)\nelse:\n  print(9)\nprint(n)", "1", "2")
        self.check("for a in [1, 2]:\n  for b in [3, 4]:\n    if b == 4:\n      break\n    print(a, b)\n  else:\n    print(9)", "1 3", "2 3")
        self.check("for a in [1, 2]:\n  for b in []:\n    pass\n  else:\n    continue\n  print(9)\nelse:\n  print(8)", "8")
        self.check("for x in []:\n  pass\nelse:\n  for y in [1]:\n    print(y)", "1")
        self.check("x = [1, 2]\nfor n in x:\n  if len(x) < 5:\n    x.append(n)\nprint(x)", "[1, 2, 1, 2, 1]")
        self.check("for k, v in {\"a\": 1}.items():\n  print(k, v)\nfor c in \"ab\":\n  print(c)\nfor k in {5: 6}:\n  print(k)",
                   "a 1", "a", "b", "5")
        self.check("i = iter([1, 2, 3])\nfor n in i:\n  break\nfor n in i:\n  print(n)\nfor n in i:\n  print(9)", "2", "3")
        self.fails("KindError", "for n in 5:\n  pass", "for n in None:\n  pass", "for a, b in [1]:\n  pass", "for a, in [\"a\"]:\n  pass")
        self.fails("ValueError", "for a, b in [(1,)]:\n  pass")
        self.error("d = {1: 2}\nfor k in d:\n  d[k + 1] = 1", ("FlowError", "", (("main", 2),)))
        self.check("d = {1: 2}\nfor k in d:\n  d[5] = 1\n  del d[5]\nprint(d)", "{1: 2}")

    def test_loops_in_expressions_of_others(self):
        # What loops hold is dropped in each way to leave them.
        self.check("def f():\n  for a in [1, 2]:\n    for b in [3, 4]:\n      while True:\n        return a, b\nprint([f(), f()])",
                   "[(1, 3), (1, 3)]")
        self.check("def f(x):\n  for a in [1, 2]:\n    for b in [3]:\n      break\n    else:\n      print(9)\n    for b in [4]:\n      continue\n"
                   "    try:\n      for c in [5]:\n        x.append(1 // 0)\n    except ZeroError:\n      x.append(a)\n  return x\nprint(f([]))",
                   "[1, 2]")

    def test_def_and_class(self):
        self.check("def f(a, b=[]):\n  b.append(a)\n  return b\nf(1)\nprint(f(2))", "[1, 2]")
        self.check("def f():\n  pass\nprint(f())", "None")
        self.check("class A:\n  a = 1\n  b = [2]\n  def c(s):\n    return 3\nprint(A.a, A.b, A.c, A().c())", "1 [2] <function c> 3")
        self.check("class A:\n  pass\nclass B(A):\n  a = 1\nclass C(B):\n  b = 2\nprint(C.a, C().b, isinstance(C(), A))", "1 2 True")
        self.check("A = None\nclass B(A):\n  x = 1\nprint(B().x)", "1")
        self.check("class E(KeyError):\n  x = 1\nprint(E(5), E(5).x)", "E(5) 1")
        self.check("a = 5\nclass A:\n  a = a + 1\n  b = a\nprint(A.a, A.b)", "6 5")
        self.fails("KindError", "class A(5):\n  pass".replace("5", "len"), "x = []\nclass A(x):\n  pass")

    def test_return(self):
        self.check("def f():\n  return\nprint(f())\ndef g():\n  return 1, 2\nprint(g())", "None", "(1, 2)")


class TestCalls(RunCase):
    """Points 49 and 58."""

    def test_functions(self):
        self.values(("f(1, 2)", "(1, 2, 3)"), ("f(b=1, a=2)", "(2, 1, 3)"), ("f(1, c=5, b=4)", "(1, 4, 5)"),
                    before="def f(a, b, c=3):\n  return a, b, c")
        for row in ("f()", "f(1)", "f(1, 2, 3, 4)", "f(1, 2, a=1)", "f(1, 2, d=1)", "f(a=1)"):
            # The error is raised in the calling frame.
            self.error("def f(a, b, c=3):\n  return a, b, c\n" + row, ("KindError", "", (("main", 3),)))
        self.values(("(lambda: 5)()", "5"), ("(lambda a, b=2: a + b)(1)", "3"))

    def test_methods(self):
        before = "class A:\n  x = 5\n  def f(s, a=1, b=2):\n    return s.x, a, b\na = A()\nm = a.f"
        self.values(("a.f()", "(5, 1, 2)"), ("a.f(3, b=4)", "(5, 3, 4)"), ("m(6)", "(5, 6, 2)"), ("A.f(a, 7)", "(5, 7, 2)"), before=before)
        self.fails("KindError", before + "\na.f(1, 2, 3)", before + "\na.f(s=1)", before + "\nA.f()")
        self.values(("[3, 1].index(1)", "1"), ("\"a-b\".split(\"-\")", '["a", "b"]'), ("{1: 2}.get(1)", "2"), ("x(5)", "None"),
                    before="x = [1].append")
        self.fails("KindError", "[].append()", "[].append(v=1)", "\"a\".upper(1)", "{}.get(k=1)", "[].pop(n=0)")

    def test_classes(self):
        self.values(("A()", "<A object>"), before="class A:\n  pass")
        self.fails("KindError", "class A:\n  pass\nA(1)", "class A:\n  pass\nA(x=1)", "class A:\n  init = 5\nA()",
                   "class A:\n  init = len\nA(1)", "class A:\n  init = None\nA()", "class B:\n  pass\nclass A:\n  init = B\nA()",
                   "class E(Error):\n  init = 5\nE()")
        self.check("class A:\n  def init(s, x, y=2):\n    s.x = x\n    s.y = y\n    return 99\na = A(1)\nprint(a, a.x, a.y)\nprint(A(y=5, x=6).x)",
                   "<A object> 1 2", "6")
        self.error("class A:\n  def init(s, x):\n    pass\nA()", ("KindError", "", (("main", 4),)))
        self.check("class A:\n  def init(s):\n    s.n = 1\nclass B(A):\n  pass\nprint(B().n)", "1")
        # An init that yields makes a generator, which is dropped.
        self.check("class A:\n  def init(s):\n    s.n = 1\n    yield\na = A()\ntry:\n  a.n\nexcept FieldError as e:\n  print(a, e)",
                   '<A object> FieldError("n")')
        self.check("class A:\n  def init(s):\n    s.me = [s]\na = A()\nprint(a.me)", "[<A object>]")
        self.error("class A:\n  def init(s):\n    1 // 0\nA()", ("ZeroError", "", (("main", 4), ("init", 3))))

    def test_error_classes(self):
        self.values(("Error()", "Error()"), ("KeyError(5)", "KeyError(5)"), ("Error(None).message", "None"), ("E(1)", "E(1)"),
                    ("E().message", "None"), before="class E(Error):\n  x = 1")
        self.fails("KindError", "Error(1, 2)", "Error(message=1)", "class E(Error):\n  pass\nE(1, 2)", "class E(Error):\n  pass\nE(message=1)")
        self.check("class E(Error):\n  def init(s, a, b):\n    print(s.message)\n    s.code = a\n    s.message = b\ne = E(1, 2)\nprint(e, e.code)",
                   "None", "E(2) 1")
        self.check("class E(Error):\n  def init(s):\n    pass\nprint(E(), E().message)", "E() None")

    def test_what_cannot_be_called(self):
        self.fails("KindError", "5()", "None()", "\"a\"()", "[]()", "()()", "{}()", "class A:\n  pass\nA()()", "iter([])()", "Error()()",
                   "def f():\n  yield\nf()()")

    def test_builtins_take_no_names(self):
        self.fails("KindError", "len(x=[])", "print(x=1)", "take(n=1)", "next(iter([1]), d=1)", "range(1, b=2)",
                   "print(1, sep=2)")

    def test_order_of_checks(self):
        # The arguments are bound before the depth is asked.
        self.error("def f(a):\n  return a\nf()", ("KindError", ""), depth=1)
        self.error("def f(a):\n  return a\nf(1)", ("DepthError", "", (("main", 3),)), depth=1)
        self.error("class A:\n  def init(s):\n    pass\nA()", ("DepthError", "", (("main", 4),)), depth=1)
        self.error("[n for n in []]", ("DepthError", "", (("main", 1),)), depth=1)
        self.error("(lambda: 1)()", ("DepthError", ""), depth=1)
        self.check("class A:\n  pass\nprint(A(), Error(1), len([]))\ndef f():\n  yield\nf()", "<A object> Error(1) 0", depth=1)

    def test_depth(self):
        text = "def f(n):\n  if n:\n    return f(n - 1)\n  return 0\nprint(f({}))"
        for depth in (2, 5, 24, 40):
            self.check(text.format(depth - 2), "0", depth=depth)
            trace = (("main", 5),) + (("f", 3),) * (depth - 1)
            self.error(text.format(depth - 1), ("DepthError", "", trace), depth=depth)
        self.check("def f(n):\n  try:\n    return f(n + 1)\n  except DepthError:\n    return n\nprint(f(1))", "23")

    def test_arguments_are_evaluated_in_the_calling_frame(self):
        self.check("def f(a):\n  return a\ndef g():\n  return f(f(f(1)))\nprint(f(g()))", "1", depth=3)


class TestDoneByTheRun(RunCase):
    """Point 59."""

    def test_print(self):
        self.check("print()\nprint(1, \"a\", [\"b\"], None)\nprint(\"\")\nprint(\"a b\", \"\")\nx = print(1)\nprint(x)",
                   "", '1 a ["b"] None', "", "a b ", "1", "None")
        self.check("print(\"a\" * 500)\nprint(\"a\" * 249, \"b\" * 250)\nprint(\"a\" * 250, \"\", \"b\" * 248)",
                   "a" * 500, "a" * 249 + " " + "b" * 250, "a" * 250 + "  " + "b" * 248)
        self.fails("SizeError", "print(\"a\" * 250, \"b\" * 250)", "print([\"a\" * 497])", "print(\"a\" * 500, \"\")",
                   "print(\"a\" * 250, \"\", \"b\" * 249)")
        self.error("print(1)\nprint(\"a\" * 250, \"b\" * 250)", ("SizeError", ""), prints=["1"])
        self.check("p = print\np(1)\n[print(n) for n in [2, 3]]", "1", "2", "3")
        self.check("print(\"a\\nb\")", "a\nb")

    def test_take(self):
        self.check("print(take(), take(), repr(take()))", '-5 x "a\\nb"', inputs=[-5, "x", "a\nb"])
        self.error("take()", ("StopError", "", (("main", 1),)))
        self.error("take()\ntake()", ("StopError", "", (("main", 2),)), inputs=(1,))
        self.fails("KindError", "take(1)", "take(None)")
        self.check("try:\n  take(1)\nexcept KindError:\n  print(take())", "7", inputs=[7])
        self.check("print(kind(take()), kind(take()))", "number text", inputs=(10 ** 60 - 1, ""))

    def test_next(self):
        self.check("i = iter([1])\nprint(next(i), next(i, 5))", "1 5")
        self.error("next(iter([]))", ("StopError", "", (("main", 1),)))
        self.fails("KindError", "next()", "next(1)", "next([1])", "next(iter([1]), 1, 2)")

    def test_builtin_functions(self):
        self.values(("len(\"abc\"), len({1: 2})", "(3, 1)"), ("range(2, 8, 3)", "[2, 5]"), ("str([\"a\"])", '"[\\"a\\"]"'),
                    ("int(\"-7\")", "-7"), ("abs(-4)", "4"), ("min(3, 1), max([1, 5])", "(1, 5)"), ("list(\"ab\")", '["a", "b"]'),
                    ("tuple([1])", "(1,)"), ("isinstance(KeyError(), FindError)", "True"), ("kind(len)", '"builtin"'))


if __name__ == "__main__":
    unittest.main()
