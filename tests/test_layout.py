"""Point 9: tokens written back as a text; point 3 of its argument and result."""

import unittest

from likerun.signs import layout, tokens
from tests.helpers import SourceCase

PROGRAM = """
# a comment
class A( B ):
  n=-12
  def f(self,x = 1 ,) :
      while   x<=2   :   # again
             x//=3

             return{1:[x ,
                "a" 'b' ], }
      else:
         pass
  def g():
   yield not self . f  [ 1 :: 2 ]
try :
   f( a=1 )
except :
   del a
"""


def kinds_and_words(text):
    return [mark[:2] for mark in tokens(text)]


class TestLayout(SourceCase):

    def both(self, text, written):
        """The tokens of the text are written so, and these are written so again."""
        self.assertEqual(layout(tokens(text)), written)
        self.assertEqual(kinds_and_words(written), kinds_and_words(text))
        self.assertEqual(layout(tokens(written)), written)

    def test_no_lines(self):
        self.assertEqual(layout(tokens("")), "")
        self.assertEqual(layout(tokens("\n # c\n")), "")

    def test_one_line(self):
        self.both("x=1", "x = 1\n")
        self.both("f( a,b ) . c[1:-2]", "f ( a , b ) . c [ 1 : - 2 ]\n")
        self.both("x   # c\n\n\ny", "x\ny\n")
        self.both("0 10", "0 10\n")
        self.both("True is not None", "True is not None\n")
        self.both("a//=b", "a //= b\n")

    def test_broken_rows_become_one_line(self):
        self.both("f(\n  1,\n\n # c\n2)\nx", "f ( 1 , 2 )\nx\n")
        self.both("x\n [\n]", "x\n    [ ]\n")

    def test_texts(self):
        self.both("'a'", '"a"\n')
        self.both("''", '""\n')
        self.both("'it\\'s'", '"it\'s"\n')
        self.both("'\"'", '"\\""\n')
        self.both('"\\""', '"\\""\n')
        self.both("'\\\\'", '"\\\\"\n')
        self.both("'\\n'", '"\\n"\n')
        self.both("'\\\\n\\n\\\\\\'\\\"'", '"\\\\n\\n\\\\\'\\""\n')
        self.both("x = 'a # b' + \"(\"", 'x = "a # b" + "("\n')

    def test_blocks(self):
        self.both("a\n b\n  c\n  d\n e\nf", "a\n    b\n        c\n        d\n    e\nf\n")
        self.both("a\n        b\n", "a\n    b\n")
        self.both("a\n b\n  c\nd", "a\n    b\n        c\nd\n")

    def test_deepest_blocks(self):
        text = "\n".join(" " * level + "x" for level in range(11))
        self.both(text, "".join("    " * level + "x\n" for level in range(11)))

    def test_program(self):
        self.both(PROGRAM, """class A ( B ) :
    n = - 12
    def f ( self , x = 1 , ) :
        while x <= 2 :
            x //= 3
            return { 1 : [ x , "a" "b" ] , }
        else :
            pass
    def g ( ) :
        yield not self . f [ 1 : : 2 ]
try :
    f ( a = 1 )
except :
    del a
""")

    def test_keywords_and_signs(self):
        self.both("and as break class continue def del elif else except False finally for from global if",
                  "and as break class continue def del elif else except False finally for from global if\n")
        self.both("in is lambda mod None nonlocal not or pass raise return True try while with yield",
                  "in is lambda mod None nonlocal not or pass raise return True try while with yield\n")
        self.both("//=+= -= *= // ==!=<= >=< > =+ - *()[]{},:.",
                  "//= += -= *= // == != <= >= < > = + - * ( ) [ ] { } , : .\n")

    def test_longest_lines(self):
        text = "(\n" + "." * 118 + ")"
        self.assertEqual(layout(tokens(text)), "( " + ". " * 118 + ")\n")

    def test_argument_stays_as_it_was(self):
        marks = tokens(PROGRAM)
        before = list(marks)
        first = layout(marks)
        self.assertEqual(marks, before)
        self.assertEqual(layout(marks), first)
        self.assertIs(type(first), str)


if __name__ == "__main__":
    unittest.main()
