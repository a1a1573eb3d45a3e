"""Points 17 to 23: units, the meaning of names, and faults of scopes."""

import random
import symtable
import unittest

from likerun.errors import BadScope, BadSyntax, BadToken, TooLong
from likerun.scopes import Program, meaning, read_program
from likerun.trees import read_tree
from tests.helpers import SourceCase


def fields(text, field):
    """Return one field of each unit of a program."""
    return [getattr(unit, field) for unit in read_program(text).units]


def unit(text, number):
    return read_program(text).units[number]


class TestUnits(SourceCase):
    """Points 17, 18 and 21."""

    def check_names(self, text, wanted):
        """The names of the units but the first, which is the program's."""
        with self.subTest(text=text):
            self.assertEqual(fields(text, "name"), ["main"] + wanted.split())

    def check_units(self, text, field, wanted):
        with self.subTest(text=text, field=field):
            self.assert_same(fields(text, field), wanted)

    def test_example_of_the_interface(self):
        program = read_program("def f(n):\n    return lambda: n")
        self.assertEqual([program.units[1].cells, program.units[2].name, program.units[2].free],
                         [("n",), "lambda", ("n",)])

    def test_the_program(self):
        text = "x = 1\nfor y in z:\n  del w"
        main = unit(text, 0)
        found = (main.name, main.line, main.parameters, main.defaults, main.slots, main.cells, main.free, main.yields,
                 main.outer, main.body)
        self.assert_same(found, ("main", 0, (), 0, (), (), (), False, None, read_tree(text)))
        self.assertEqual(len(read_program("").units), 1)
        self.assert_same(read_program("").units[0].body, ())

    def test_tree_and_units(self):
        for reader in (read_program, Program.read):
            program = reader("def f():\n  pass\nf()")
            self.assertIsInstance(program, Program)
            self.assert_same(program.tree, read_tree("def f():\n  pass\nf()"))
            self.assertIsInstance(program.units, tuple)
            self.assertEqual([part.name for part in program.units], ["main", "f"])

    def test_both_readers_give_the_same(self):
        text = "def f(a, b=lambda: 1):\n  c = [a for d in b]\n  def g():\n    yield c\n  return g"
        rows = [[vars(part) for part in reader(text).units] for reader in (read_program, Program.read)]
        self.assertEqual(rows[0], rows[1])

    def test_order(self):
        self.check_names("def f(a=lambda: 1):\n  def g():\n    pass\ndef h():\n  pass", "lambda f g h")
        self.check_names("def f(a=lambda b=lambda: 1: 2):\n  pass", "lambda lambda f")
        self.assertEqual(fields("x = lambda b=(lambda: 1): 2", "body")[1:], [("number", 1), ("number", 2)])
        self.check_names("def f():\n  [a for b in [c for d in e]]\n  lambda: 1", "f comp comp lambda")
        # The iterable goes first, then the condition, then the element.
        text = "[(lambda: 1) for a in (lambda: 2) if (lambda: 3)]"
        self.check_names(text, "lambda comp lambda lambda")
        self.assertEqual([part and part[0] for part in fields(text, "body")[2:]], ["comp", "number", "number"])
        self.assertEqual([part for part in fields(text, "body") if part[:1] == ("number",)],
                         [("number", 2), ("number", 3), ("number", 1)])
        self.assertEqual(fields(text, "outer"), [None, 0, 0, 2, 2])

    def numbers(self, text):
        """Return the numbers that the lambdas of a program give, in the order of the units."""
        return [body[1] for body in fields(text, "body") if len(body) == 2 and body[0] == "number"]

    def test_order_of_the_parts_of_a_tuple(self):
        cases = (
            ("(lambda: 2) if (lambda: 1) else (lambda: 3)", [1, 2, 3]),
            ("f(lambda: 1, a=lambda: 2)(lambda: 3)", [1, 2, 3]),
            ("{lambda: 1: lambda: 2, 3: lambda: 3}", [1, 2, 3]),
            ("[lambda: 1, (lambda: 2, lambda: 3)]", [1, 2, 3]),
            ("(lambda: 1) < (lambda: 2) == (lambda: 3)", [1, 2, 3]),
            ("(lambda: 1) + (lambda: 2) * (lambda: 3)", [1, 2, 3]),
            ("(lambda: 1) and (lambda: 2) or (lambda: 3)", [1, 2, 3]),
            ("(lambda: 1)[lambda: 2:lambda: 3:lambda: 4]", [1, 2, 3, 4]),
            ("(lambda: 1)[lambda: 2]", [1, 2]),
            ("-(lambda: 1).a", [1]),
            ("a[lambda: 1], b[lambda: 2] = lambda: 3, lambda: 4", [1, 2, 3, 4]),
            ("a[lambda: 1] += lambda: 2", [1, 2]),
            ("del a[lambda: 1]", [1]),
            ("raise (lambda: 1) from lambda: 2", [1, 2]),
            ("if lambda: 1:\n  lambda: 2\nelif lambda: 3:\n  lambda: 4\nelse:\n  lambda: 5", [1, 2, 3, 4, 5]),
            ("while lambda: 1:\n  lambda: 2\nelse:\n  lambda: 3", [1, 2, 3]),
            ("for a in lambda: 1:\n  lambda: 2\nelse:\n  lambda: 3", [1, 2, 3]),
            ("try:\n  lambda: 1\nexcept lambda: 2:\n  lambda: 3\nexcept:\n  lambda: 4\nelse:\n  lambda: 5\nfinally:\n"
             "  lambda: 6", [1, 2, 3, 4, 5, 6]),
            ("with lambda: 1:\n  lambda: 2", [1, 2]),
            ("class A(B):\n  a = lambda: 1\n  def f(b=lambda: 2):\n    lambda: 3\n  c = lambda: 4", [1, 2, 3, 4]),
            ("def f(a=lambda: 1, b=lambda: 2):\n  return lambda: 3", [1, 2, 3]),
            ("def f():\n  x = yield lambda: 1\n  yield lambda: 2", [1, 2]),
        )
        for text, wanted in cases:
            with self.subTest(text=text):
                self.assertEqual(self.numbers(text), wanted)

    def test_functions_in_classes_and_classes_in_functions(self):
        text = "class A:\n  def f(self):\n    class B:\n      def g(h):\n        return lambda: h\n      i = lambda: 1"
        self.check_names(text, "f g lambda lambda")
        self.check_units(text, "outer", [None, 0, 1, 2, 1])
        self.check_units(text, "slots", [(), ("self", "B"), ("h",), (), ()])

    def test_lines(self):
        text = ("\ndef f(a=lambda: 1,\n  b=lambda: 2):\n  pass\nx = (1,\n  lambda: 3)\n"
                "try:\n  pass\nexcept lambda: 4:\n  pass\nif 1:\n  pass\nelif [a for a in b]:\n  pass\n"
                "class A:\n  b = lambda: (\n   lambda: 5)\n  def g(c=lambda: 6):\n    pass\n"
                "for a in [b for b in\n c]:\n  pass\nelse:\n  x[\n lambda: 7] = 1\nlambda: [d\n for d in (\n lambda: 8)]")
        self.check_names(text, "lambda lambda f lambda lambda comp lambda lambda lambda g comp lambda lambda lambda "
                         "comp")
        self.check_units(text, "line", [0, 2, 2, 2, 5, 9, 13, 16, 16, 18, 18, 20, 24, 26, 26, 26])

    def test_outer(self):
        text = "def f(a=lambda: 1, b=[c for c in d]):\n  def g(h=lambda: 2):\n    [i for i in [j for j in k]]"
        self.check_names(text, "lambda comp f lambda g comp comp")
        self.check_units(text, "outer", [None, 0, 0, 0, 3, 3, 5, 5])
        text = "[[a for a in (lambda: 1)] for b in [c for c in d] if [e for e in f]]"
        self.check_names(text, "comp comp comp lambda comp")
        self.check_units(text, "outer", [None, 0, 0, 2, 2, 2])

    def test_parameters_and_defaults(self):
        text = "def f():\n  pass\ndef g(a, b, c=1, d=2):\n  pass\nlambda: 1\nlambda e, h=3: 1\n[i for i in j]"
        self.check_units(text, "parameters", [(), (), ("a", "b", "c", "d"), (), ("e", "h"), (".items",)])
        self.check_units(text, "defaults", [0, 0, 2, 0, 1, 0])

    def test_slots(self):
        cases = (
            ("def f(b, a):\n  c = a\n  d += 1\n  del e", ("b", "a", "c", "d", "e")),
            ("def f():\n  for a in b:\n    c = d\n  for e, g in h:\n    pass\n  else:\n    i = 1", ("a", "c", "e", "g", "i")),
            ("def f():\n  def g(x=1):\n    y = 1\n  class h(i):\n    j = 1\n    def k():\n      pass", ("g", "h")),
            ("def f():\n  with a as b:\n    c = 1\n  with d:\n    pass", ("b", "c")),
            ("def f():\n  try:\n    a = 1\n  except b as c:\n    d = 1\n  except e:\n    g = 1\n  except:\n    h = 1\n"
             "  else:\n    i = 1\n  finally:\n    j = 1", ("a", "c", "d", "g", "h", "i", "j")),
            ("def f():\n  a.b = 1\n  c[d] = 1\n  del e.g\n", ()),
            ("def f():\n  a, b.c, d[e], g = h\n  del i[j]\n  k.l += 1", ("a", "g")),
            ("def f():\n  b = a\n  a = b\n  b = 1", ("b", "a")),
            ("def f(a):\n  b = 1\n  a = 2\n  b = 3", ("a", "b")),
            ("def f():\n  if a:\n    b = 1\n  elif c:\n    d = 1\n  else:\n    e = 1", ("b", "d", "e")),
            ("def f():\n  while a:\n    b = 1\n  else:\n    c = 1", ("b", "c")),
            ("def f():\n  global a, b\n  a = 1\n  c = 1\n  for b in d:\n    e = 1", ("c", "e")),
            ("def f():\n  x = [a for a in b]\n  y = lambda c: d", ("x", "y")),
            ("def f():\n  f(a=1)\n  return b\n  raise c from d", ()),
            # The target goes before what is assigned to it, and a name of "def" before what is within.
            ("def f():\n  a = b\n  for c in d:\n    pass\n  with e as g:\n    h = 1", ("a", "c", "g", "h")),
        )
        for text, wanted in cases:
            with self.subTest(text=text):
                self.assert_same(unit(text, 1).slots, wanted)
        self.check_units("[a for b, a, b in c if d]", "slots", [(), (".items", ".out", "b", "a")])
        self.check_units("[a for b, in c]", "slots", [(), (".items", ".out", "b")])
        self.check_units("lambda a, b=1: c", "slots", [(), ("a", "b")])
        self.check_units("for a in b:\n  c = 1\ndef d():\n  pass", "slots", [(), ()])

    def test_targets_of_comprehensions_bind_there_alone(self):
        program = read_program("def f():\n  [a for a in a]\n  return a")
        self.assertEqual(program.units[1].slots, ())
        self.assertEqual([meaning(program, number, "a") for number in range(3)], ["global", "global", "local"])

    def test_cells(self):
        text = "def f(d, c):\n  b = 1\n  a = 2\n  def g():\n    return a, c, e\n  def h():\n    return lambda: d\n  e = 1"
        self.check_units(text, "cells", [(), ("d", "c", "a", "e"), (), (), ()])
        self.check_units(text, "free", [(), (), ("a", "c", "e"), ("d",), ("d",)])
        self.check_units("def f(a):\n  return [a for b in a]", "cells", [(), ("a",), ()])
        # The iterable belongs to the unit in which the comprehension stands.
        self.check_units("def f(a):\n  return [b for b in a]", "cells", [(), (), ()])
        self.check_units("def f(a):\n  return lambda b=a: b", "cells", [(), (), ()])
        self.check_units("[lambda: a for a in b]", "cells", [(), ("a",), ()])
        self.check_units("def f(a):\n  class A:\n    b = a\n    def c():\n      return a", "cells", [(), ("a",), ()])
        self.check_units("def f(a):\n  class A(a):\n    b = a", "cells", [(), ()])

    def test_free(self):
        text = "def f(z, a, m):\n  def g():\n    def h():\n      return z, a, m\n    return h"
        self.check_units(text, "free", [(), (), ("a", "m", "z"), ("a", "m", "z")])
        # A name that is local or global in a unit does not go through it.
        text = "def f(a):\n  def g(a):\n    return lambda: a\n  return a"
        self.check_units(text, "free", [(), (), (), ("a",)])
        self.check_units(text, "cells", [(), (), ("a",), ()])
        text = "def f(a):\n  def g():\n    global a\n    return lambda: a\n  return a"
        self.check_units(text, "free", [(), (), (), ()])
        self.check_units(text, "cells", [(), (), (), ()])
        text = "def f():\n  a = 1\n  def g():\n    nonlocal a\n    def h():\n      nonlocal a\n      a = 2"
        self.check_units(text, "free", [(), (), ("a",), ("a",)])
        self.check_units(text, "slots", [(), ("a", "g"), ("h",), ()])
        # Declared, but not used otherwise: the name occurs.
        self.check_units("def f(a):\n  def g():\n    nonlocal a", "free", [(), (), ("a",)])

    def test_occurring(self):
        cases = (
            ("def f(a):\n  def g():\n    b.a", ()), ("def f(a):\n  def g():\n    b(a=1)", ()),
            ("def f(a):\n  def g():\n    class b:\n      a = 1", ()),
            ("def f(a):\n  def g():\n    class b:\n      def a():\n        pass", ()),
            ("def f(a):\n  def g():\n    class b(a):\n      pass", ("a",)),
            ("def f(a):\n  def g():\n    a.b = 1", ("a",)), ("def f(a):\n  def g():\n    del a[0]", ("a",)),
            ("def f(a):\n  def g():\n    b[a] += 1", ("a",)), ("def f(a):\n  def g():\n    b(c=a)", ("a",)),
            ("def f(a):\n  def g():\n    with a:\n      pass", ("a",)),
            ("def f(a):\n  def g():\n    try:\n      pass\n    except a:\n      pass", ("a",)),
            ("def f(a):\n  def g():\n    raise b from a", ("a",)), ("def f(a):\n  def g():\n    a", ("a",)),
            ("def f(a):\n  def g():\n    return b[1:a]", ("a",)), ("def f(a):\n  def g():\n    yield a", ("a",)),
            ("def f(a):\n  def g():\n    for b in a:\n      pass", ("a",)),
            ("def f(a):\n  def g():\n    while {b: a}:\n      pass", ("a",)),
            ("def f(a):\n  def g():\n    if b < c == a:\n      pass", ("a",)),
        )
        for text, wanted in cases:
            with self.subTest(text=text):
                self.assert_same(unit(text, 2).free, wanted)

    def test_yields(self):
        text = "def f():\n  yield\ndef g():\n  x = yield 1\ndef h():\n  def i():\n    yield\n  lambda: 1\n  return [a for a in b]"
        self.check_names(text, "f g h i lambda comp")
        self.check_units(text, "yields", [False, True, True, False, True, False, False])
        self.assertIs(unit("def f():\n  if a:\n    while b:\n      yield", 1).yields, True)

    def test_bodies(self):
        text = "def f():\n  return 1\nlambda a: a + 1\n[b for c in d]"
        tree = read_tree(text)
        self.check_units(text, "body", [tree, tree[0][4], tree[1][2][2], tree[2][2]])


class TestMeaning(SourceCase):
    """Points 19 and 20."""

    def check_meanings(self, text, name, wanted):
        """What a name means in each of the units."""
        program = read_program(text)
        with self.subTest(text=text, name=name):
            found = [meaning(program, number, name) for number in range(len(program.units))]
            self.assertEqual(found, wanted.split())

    def test_meanings(self):
        text = "def f(a):\n  def g():\n    def h():\n      return a\n  def i():\n    pass\n  return g"
        self.check_meanings(text, "a", "global local free free free")
        self.check_meanings(text, "g", "global local free free free")
        self.check_meanings(text, "f", "global global global global global")
        self.check_meanings(text, "nothing", "global global global global global")

    def test_unit_0(self):
        text = "a = 1\ndef f():\n  return a\ndef g():\n  a = 2\n  return lambda: a"
        self.check_meanings(text, "a", "global global local free")
        self.check_meanings("for a in b:\n  [a for c in d]\nlambda: a", "a", "global global global")

    def test_global(self):
        text = "def f(a):\n  def g():\n    global a\n    def h():\n      def i():\n        return a"
        self.check_meanings(text, "a", "global local global global global")
        # A local name between hides the declaration.
        text = "def f(a):\n  def g():\n    global a\n    def h(a):\n      def i():\n        return a"
        self.check_meanings(text, "a", "global local global local free")
        self.check_meanings("def f():\n  global a\n  a = 1\n  def g():\n    a = 2\n    return lambda: a", "a",
                            "global global local free")

    def test_nonlocal(self):
        text = "def f():\n  a = 1\n  def g():\n    nonlocal a\n    a = 2\n    def h():\n      return lambda: a"
        self.check_meanings(text, "a", "global local free free free")
        text = "def f(a):\n  def g():\n    def h():\n      nonlocal a\n      a = 1"
        self.check_meanings(text, "a", "global local free free")
        text = "def f(a):\n  def g():\n    global a\n    def h(a):\n      def i():\n        nonlocal a\n        a = 1"
        self.check_meanings(text, "a", "global local global local free")

    def test_comprehensions_and_lambdas(self):
        text = "def f(a):\n  return [lambda: (a, b) for b in a if a]"
        self.check_meanings(text, "a", "global local free free")
        self.check_meanings(text, "b", "global global local free")
        self.check_meanings(text, ".items", "global global local free")
        self.check_meanings(text, ".out", "global global local free")
        # A name that a comprehension binds is not free in it, but a nonlocal one finds no lambda's.
        self.check_meanings("def f(a):\n  lambda a: lambda: a", "a", "global local local free")

    def test_classes_bind_nothing(self):
        text = "def f(a):\n  class A:\n    a = 1\n    b = 2\n    def g():\n      return a, b, A"
        self.check_meanings(text, "a", "global local free")
        self.check_meanings(text, "b", "global global global")
        self.check_meanings(text, "A", "global local free")

    def test_two_programs_by_turns(self):
        one = read_program("def f(a):\n  return lambda: a")
        other = read_program("def f(b):\n  return lambda: a")
        for _ in range(3):
            self.assertEqual(meaning(one, 2, "a"), "free")
            self.assertEqual(meaning(other, 2, "a"), "global")
            self.assertEqual(meaning(other, 2, "b"), "free")

    def test_against_python(self):
        rng = random.Random(20)
        accepted = 0
        for _ in range(3000):
            text = random_functions(rng)
            try:
                table = symtable.symtable(text, "text", "exec")
            except SyntaxError:
                with self.subTest(text=text), self.assertRaises(BadScope):
                    read_program(text)
                continue
            accepted += 1
            with self.subTest(text=text):
                program = read_program(text)
                self.compare(program, table, 0)
        self.assertGreater(accepted, 1000)
        self.assertLess(accepted, 2900)

    def compare(self, program, table, number):
        """The names of a unit mean what they mean to Python."""
        part = program.units[number]
        for symbol in table.get_symbols():
            found = meaning(program, number, symbol.get_name())
            if number == 0 or symbol.is_global():
                self.assertEqual(found, "global")
            else:
                self.assertEqual(found, "free" if symbol.is_free() else "local")
        if number:
            self.assertEqual(sorted(part.slots), sorted(table.get_locals()))
            self.assertEqual(list(part.free), sorted(table.get_frees()))
            self.assertEqual(part.parameters, table.get_parameters())
        inner = [at for at in range(len(program.units)) if program.units[at].outer == number]
        self.assertEqual(len(inner), len(table.get_children()))
        for at, child in zip(inner, table.get_children()):
            self.compare(program, child, at)
        needed = {name for at in inner for name in program.units[at].free}
        self.assertEqual(part.cells, tuple(name for name in part.slots if name in needed))


def random_functions(rng):
    """Return functions and lambdas within each other, which declare, bind and read few names."""
    rows = []

    def function(margin, depth):
        names = rng.sample("abc", rng.randrange(3))
        rows.append(margin + "def f{}({}):".format(len(rows), ", ".join(names)))
        margin += " "
        declared = []
        for word in ("global", "nonlocal"):
            for name in "abc":
                if rng.random() < 0.12 and name not in declared:
                    declared.append(name)
                    rows.append(margin + word + " " + name)
        rows.append(margin + "pass")
        for _ in range(rng.randrange(3)):
            name = rng.choice("abc")
            rows.append(margin + rng.choice([
                "{0} = 1", "{0}", "for {0} in b: pass", "lambda {0}: lambda: (a, b)", "{0} += 1", "del {0}",
                "lambda: {0}", "{0}.a = {0}", "with c as {0}: pass"]).format(name).replace(": pass", ":\n" + margin +
                                                                                         " pass"))
        for _ in range(rng.randrange(3) if depth else 0):
            function(margin, depth - 1)

    function("", 3)
    return "\n".join(rows)


class TestFaults(SourceCase):
    """Points 19, 22 and 23."""

    def check(self, text, line):
        """A fault of scopes on this line; the line None if there is none."""
        if line is None:
            self.assert_accepted(read_program, text)
        else:
            self.assert_refused(read_program, text, BadScope, line, 0)

    def check_all(self, rows):
        for text, line in rows:
            self.check(text, line)

    def test_return_and_yield(self):
        self.check_all((
            ("return", 1), ("return 1", 1), ("\nif a:\n  return", 3), ("yield", 1), ("x = yield 1", 1),
            ("while a:\n  pass\nelse:\n  yield", 4), ("class A:\n  def f():\n    return", None),
            ("def f():\n  return\n  yield", None), ("def f():\n  pass\nreturn", 3),
            ("try:\n  pass\nexcept:\n  return", 4), ("with a:\n  x = yield", 2),
            ("def main():\n  return 1", None), ("def f():\n  lambda: 1\n  return [a for b in c]", None)))

    def test_break_and_continue(self):
        for word in ("break", "continue"):
            self.check_all((
                (word, 1), ("while a:\n  " + word, None), ("for a in b:\n  " + word, None), ("if a:\n  " + word, 2),
                ("while a:\n  pass\nelse:\n  " + word, 4), ("for a in b:\n  pass\nelse:\n  " + word, 4),
                ("while a:\n  while b:\n    pass\n  else:\n    " + word, None),
                ("while a:\n  for b in c:\n    pass\n  else:\n    if d:\n      " + word, None),
                ("while a:\n  def f():\n    " + word, 3), ("for a in b:\n  class A:\n    def f():\n      " + word, 4),
                ("while a:\n  def f():\n    while b:\n      " + word + "\n  " + word, None),
                ("while a:\n  if b:\n    " + word + "\n  elif c:\n    " + word + "\n  else:\n    " + word, None),
                ("for a in b:\n  try:\n    " + word + "\n  except c:\n    " + word + "\n  except:\n    " + word +
                 "\n  else:\n    " + word + "\n  finally:\n    " + word, None),
                ("for a in b:\n  with c:\n    " + word, None), ("with c:\n  " + word, 2), ("try:\n  " + word +
                                                                                          "\nfinally:\n  pass", 2),
                ("try:\n  pass\nexcept:\n  " + word, 4), ("try:\n  pass\nfinally:\n  " + word, 4),
                ("try:\n  pass\nexcept:\n  pass\nelse:\n  " + word, 6), ("def f():\n  " + word, 2),
                ("while a:\n  while b:\n    pass\n" + word, 4)))

    def test_parameters_twice(self):
        self.check_all((
            ("def f(a, a):\n  pass", 1), ("\ndef f(a, b, c,\n  b=1):\n  pass", 2), ("lambda a, a: 1", 1),
            ("x = (\n\nlambda a, b=1, a=2: 1)", 1), ("def f(b=lambda a, a: 1):\n  pass", 1),
            ("class A:\n  def f(a, a):\n    pass", 2), ("class A:\n  b = lambda a, a: 1", 2),
            ("try:\n  pass\nexcept lambda a, a: 1:\n  pass", 3), ("if a:\n  pass\nelif lambda a, a: 1:\n  pass", 3),
            ("[lambda a, a: 1 for b in c]", 1), ("lambda: (\nlambda a, a: 1)", 1), ("def f(a):\n  lambda a: a", None),
            ("def f(a, b):\n  pass\ndef g(a, b):\n  pass", None), ("[a for b, b in c]", None), ("a, a = b", None)))

    def test_named_arguments_twice(self):
        bad = "f(a=1, a=2)"
        self.check_all((
            (bad, 1), ("f(1, a=1, b=2, a=3)", 1), ("\ng(\n f(a=1, a=2))", 2), ("x[" + bad + "] = 1", 1),
            ("def f(a=" + bad + "):\n  pass", 1), ("lambda: " + bad, 1), ("lambda x=" + bad + ": 1", 1),
            ("[" + bad + " for a in b]", 1), ("[a for a in " + bad + "]", 1), ("[a for a in b if " + bad + "]", 1),
            ("if a:\n  pass\nelif " + bad + ":\n  pass", 3), ("try:\n  pass\nexcept " + bad + ":\n  pass", 3),
            ("class A:\n  b = 1\n  c = " + bad, 3), ("class A:\n  def g(a=" + bad + "):\n    pass", 2),
            ("del a[" + bad + "]", 1), ("raise a from " + bad, 1), ("def g():\n  return " + bad, 2),
            ("def g():\n  x = yield " + bad, 2), ("while " + bad + ":\n  pass", 1), ("for a in " + bad + ":\n  pass", 1),
            ("with " + bad + ":\n  pass", 1), ("{1: " + bad + "}", 1), ("a[1:" + bad + "]", 1), ("a < b < " + bad, 1),
            ("a if " + bad + " else b", 1), ("not -" + bad + ".c", 1), ("x += " + bad, 1), ("f(a=1)(a=2)", None),
            ("f(a=f(a=1))", None), ("f(a, a=a)", None), ("f(b=" + bad + ")", 1), ("f(" + bad + ", b=1)", 1)))

    def test_attributes_twice(self):
        self.check_all((
            ("class A:\n  a = 1\n  a = 2", 3), ("class A:\n  a = 1\n  def a():\n    pass", 3),
            ("class A:\n  def a():\n    pass\n  b = 1\n  a = 2\n  b = 3", 5),
            ("class A:\n  def a():\n    pass\n  def a():\n    pass", 4), ("class A:\n  pass\n  pass", None),
            ("class A:\n  a = 1\nclass A:\n  a = 1", None), ("class A:\n  a = (\n    1)\n  a = (\n    2)", 4),
            ("class A:\n  a = 1\n  b = 1\n  c = 1\n  a = 1\n  a = 1", 5),
            ("def f():\n  class A:\n    a = 1\n    def b():\n      class C:\n        a = 1\n        b = 1", None)))

    def test_declarations(self):
        for word in ("global", "nonlocal"):
            start = "def f(a, b, c):\n  def g():\n"
            self.check_all((
                (word + " a", 1), ("if a:\n  " + word + " b", 2), (start + "    " + word + " a\n    pass", None),
                (start + "    " + word + " a, b\n    " + word + " c\n    a = 1", None),
                (start + "    pass\n    " + word + " a", 4), (start + "    if b:\n      " + word + " a", 4),
                (start + "    " + word + " a\n    a\n    " + word + " b", 5),
                (start + "    while b:\n      " + word + " a", 4), (start + "    a\n    " + word + " a", 4),
                ("def f(a, b):\n  def g(a):\n    " + word + " b\n    " + word + " a", 4),
                (start + "    " + word + " a, b, a", 3), (start + "    " + word + " a\n    " + word + " b, a", 4),
                (start + "    with b:\n      " + word + " a", 4),
                (start + "    try:\n      pass\n    except:\n      " + word + " a", 6)))
        self.check_all((
            ("def f(a):\n  def g():\n    global a\n    nonlocal a", 4),
            ("def f(a):\n  def g():\n    nonlocal a\n    global a", 4),
            ("def f(a):\n  global a", 2), ("def f(a=1):\n  nonlocal a", 2),
            ("def f():\n  global a\n  global b, c\n  a = b", None)))

    def test_nonlocal_names_that_are_not_found(self):
        self.check_all((
            ("def f():\n  nonlocal a", 2), ("a = 1\ndef f():\n  nonlocal a", 3),
            ("def f():\n  def g():\n    nonlocal a\n    a = 1", 3), ("def f():\n  a = 1\n  def g():\n    nonlocal a", None),
            ("def f():\n  def g():\n    nonlocal a\n  a = 1", None), ("def f(a):\n  a\ndef g():\n  nonlocal a", 4),
            ("def f(a):\n  def g():\n    global a\n    def h():\n      nonlocal a", 5),
            ("def f():\n  global a\n  a = 1\n  def g():\n    nonlocal a", 5),
            ("def f():\n  [a for a in b]\n  def g():\n    nonlocal a", 4),
            ("def f():\n  class A:\n    a = 1\n    def g():\n      nonlocal a", 5),
            ("def f():\n  a\n  def g():\n    nonlocal a", 4), ("def f():\n  lambda a: 1\n  def g():\n    nonlocal a", 4),
            ("def f(a):\n  class A:\n    def g():\n      nonlocal a\n      a = 1", None),
            ("def f():\n  try:\n    pass\n  except a as b:\n    pass\n  def g():\n    nonlocal b", None)))

    def test_faulty_declarations_still_declare(self):
        self.check_all((
            # The late nonlocal on line 4 is at fault, but the one on line 6 finds it: only line 4.
            ("def f(a):\n  def g():\n    pass\n    nonlocal a\n    def h():\n      nonlocal a", 4),
            # The nonlocal on line 3 finds the one on line 5, which is at fault itself.
            ("def f():\n  def g():\n    def h():\n      nonlocal a\n    pass\n    nonlocal a", 6),
            # The late global on line 5 hides the parameter from line 4.
            ("def f(a):\n  def g():\n    def h():\n      nonlocal a\n    pass\n    global a", 4),
            # The first one counts: a global one, so that line 5 is at fault too, but behind line 4.
            ("def f(a):\n  def g():\n    global a\n    def h():\n      nonlocal a\n    nonlocal a", 5),
            ("def f(a):\n  def g():\n    nonlocal a\n    def h():\n      nonlocal a\n    global a", 6),
            # A parameter that is declared is no local name any more.
            ("def f(a):\n  def g():\n    nonlocal a\n  pass\n  global a", 3),
            ("def f(a):\n  def g():\n    nonlocal a\n  pass\n  nonlocal a", 5)))

    def test_the_smallest_line(self):
        self.check_all((
            ("def f(a, a):\n  break\nreturn", 1), ("def f():\n  def g():\n    break\n  continue\nreturn", 3),
            ("x = [a for a in b]\nreturn\nf(a=1, a=2)", 2), ("def f():\n  nonlocal a\n  break", 2),
            ("def f():\n  break\n  def g():\n    nonlocal a", 2), ("class A:\n  a = 1\n  a = f(b=1, b=2)", 3),
            ("def f(x=lambda:\n  1):\n  nonlocal a\nreturn", 3), ("if a:\n  return\nelif f(a=1, a=2):\n  break", 2)))

    def test_order_of_errors(self):
        self.assert_refused(read_program, "return\nx = = 1", BadSyntax, 2, 5)
        self.assert_refused(read_program, "x = = 1\nreturn", BadSyntax, 1, 5)
        self.assert_refused(read_program, "return\nx = = 1\n?", BadToken, 3, 1)
        self.assert_refused(read_program, "break\n" + "a" * 121, TooLong, 2, 121)
        self.assert_refused(read_program, "break\nx = 'a", BadToken, 2, 5)
        self.assert_refused(Program.read, "return", BadScope, 1, 0)
        self.assert_refused(Program.read, "x = = 1", BadSyntax, 1, 5)

    def test_depth(self):
        text = "x = (" + "+\n".join(["a"] * 58) + ")\nx = a" + ".b" * 57 + "\nx = " + "[a for a in " * 8 + "b" + "]" * 8
        self.assertEqual(len(read_program(text).units), 9)
        rows = []
        for level in range(10):
            rows.append(" " * level + "def f{}(a{}):".format(level, level))
        rows.append(" " * 10 + "return (" + "lambda:\n" * 19 + "a0)")
        program = read_program("\n".join(rows))
        self.assertEqual(len(program.units), 30)
        self.assertEqual(program.units[29].free, ("a0",))
        self.assertEqual(program.units[1].cells, ("a0",))


if __name__ == "__main__":
    unittest.main()
