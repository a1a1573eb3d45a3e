"""Point 10: data notes."""

import random
import unittest

from likerun.datum import read_datum, write_datum
from likerun.errors import BadDatum, LikerunError

ALLOWED = [chr(n) for n in range(32, 127) if n != 37] + ["\n"]


def nested(depth):
    """Return a tuple of this depth."""
    datum = ()
    for _ in range(depth - 1):
        datum = (datum,)
    return datum


def random_datum(rng, depth):
    """Return a datum that is at most so deep."""
    choice = rng.randrange(8 if depth > 0 else 6)
    if choice == 0:
        return None
    if choice in (1, 2):
        return choice == 1
    if choice == 3:
        return rng.choice((-1, 1)) * rng.randrange(10 ** rng.randrange(1, 81))
    if choice in (4, 5):
        return "".join(rng.choice(ALLOWED) for _ in range(rng.randrange(12)))
    return tuple(random_datum(rng, depth - 1) for _ in range(rng.randrange(4)))


class TestDatum(unittest.TestCase):

    def both(self, datum, text):
        """The datum is written as the text, and read from it with the same kinds."""
        written = write_datum(datum)
        self.assertEqual(written, text)
        found = read_datum(text)
        self.assertEqual(found, datum)
        self.assertEqual(repr(found), repr(datum))

    def refused(self, text):
        with self.subTest(text=text[:60]):
            with self.assertRaises(BadDatum):
                read_datum(text)

    def test_examples_of_the_interface(self):
        self.assertEqual(write_datum((1, "a", None)), '(1 "a" none)')
        self.refused("(1  2)")

    def test_each_sort(self):
        self.both(None, "none")
        self.both(True, "true")
        self.both(False, "false")
        self.both(0, "0")
        self.both(1, "1")
        self.both(-1, "-1")
        self.both(1024, "1024")
        self.both("", '""')
        self.both("a b", '"a b"')
        self.both((), "()")
        self.both((0,), "(0)")
        self.both((1, True, 0, False, None), "(1 true 0 false none)")
        self.both(((), ((),), "()"), '(() (()) "()")')
        self.both((("a", -5), ("b", (None,))), '(("a" -5) ("b" (none)))')

    def test_strings(self):
        self.both("\\", '"\\\\"')
        self.both('"', '"\\""')
        self.both("\n", '"\\n"')
        self.both("'", '"\'"')
        self.both("n", '"n"')
        self.both("\\n", '"\\\\n"')
        self.both("\\\n\\\"", '"\\\\\\n\\\\\\""')
        self.both('a"b\\c\nd', '"a\\"b\\\\c\\nd"')
        self.both("none", '"none"')
        self.both("(1 2)", '"(1 2)"')
        self.both("".join(ALLOWED), '"' + "".join(ALLOWED).replace("\\", "\\\\")
                  .replace('"', '\\"').replace("\n", "\\n") + '"')
        self.both("x" * 10000, '"' + "x" * 10000 + '"')

    def test_integers_at_the_limit(self):
        self.both(10 ** 79, "1" + "0" * 79)
        self.both(10 ** 80 - 1, "9" * 80)
        self.both(1 - 10 ** 80, "-" + "9" * 80)
        self.refused("1" + "0" * 80)
        self.refused("-1" + "0" * 80)
        self.refused("(" + "9" * 81 + ")")
        self.refused("9" * 100000)
        self.refused("-" + "9" * 100000)

    def test_writing_goes_somewhat_beyond_the_limits(self):
        self.assertEqual(write_datum(10 ** 80), "1" + "0" * 80)
        self.assertEqual(write_datum(nested(70)), "(" * 70 + ")" * 70)

    def test_depth(self):
        self.both(nested(1), "()")
        self.both(nested(60), "(" * 60 + ")" * 60)
        self.both((1, nested(59), "x"), "(1 " + "(" * 59 + ")" * 59 + ' "x")')
        self.refused("(" * 61 + ")" * 61)
        self.refused("(1 " + "(" * 60 + ")" * 60 + ")")
        self.refused("(" * 60 + "1 ()" + ")" * 60)
        self.both(tuple(nested(59) for _ in range(5)), "(" + " ".join(["(" * 59 + ")" * 59] * 5) + ")")

    def test_very_many_brackets(self):
        for many in (1000, 5000, 200000):
            self.refused("(" * many)
            self.refused("(" * many + ")" * many)
            self.refused("(1 " * many)

    def test_wrong_spaces(self):
        for text in (" 1", "1 ", " ", "( 1)", "(1 )", "( )", "(1  2)", "(1 2 )", "(() ())) ", "1 2",
                     "(1\n2)", "(1\t2)", "\n", "1\n", "(1,2)", "(1, 2)", "(1()2)", "(()())", '("a""b")',
                     "(1none)", "(true false )", "- 1"):
            self.refused(text)

    def test_wrong_integers(self):
        for text in ("00", "01", "-0", "-01", "-", "--1", "+1", "1.0", "1e3", "0x1", "1_000", "(00)",
                     "(-0)", "(- 1)", "12a", "1-", "\u0661", "1\u0661", "\u00b2"):
            self.refused(text)

    def test_wrong_strings(self):
        for text in ('"', '"a', 'a"', '"a\\"', '"\\', '"\\t"', '"\\\'"', '"\\r"', '"\\x41"', '"\\N"',
                     '"\\ "', '"a"b', '"a""b"', "'a'", '"a\nb"', '"a\tb"', '"%"', '"a%b"', '"\u00e9"',
                     '"\x7f"', '"\x00"', '"\ud800"', '("a)', '("a"'):
            self.refused(text)

    def test_unknown_words_and_signs(self):
        for text in ("", "None", "True", "nul", "non", "nonex", "none1", "truex", "falsey", "fals",
                     "(none", "none)", "none none", ")", "(", "(1", "(1 ", "()()", "() ()", "())", "[1]",
                     "{}", "a", "\\", "%", "#", "(a)", "\u00e9", "()\x00", "(1 2))"):
            self.refused(text)

    def test_both_ways_at_random(self):
        rng = random.Random(10)
        for _ in range(2000):
            datum = random_datum(rng, 5)
            self.both(datum, write_datum(datum))

    def test_only_written_texts_are_read_at_random(self):
        rng = random.Random(11)
        accepted = 0
        for _ in range(20000):
            text = "".join(rng.choice('()"\\n 01-') for _ in range(rng.randrange(1, 8)))
            try:
                datum = read_datum(text)
            except BadDatum:
                continue
            accepted += 1
            self.assertEqual(write_datum(datum), text)
        self.assertGreater(accepted, 100)

    def test_changed_notes_at_random(self):
        rng = random.Random(12)
        for _ in range(3000):
            text = write_datum(random_datum(rng, 4))
            at = rng.randrange(len(text))
            changed = text[:at] + rng.choice(["", " ", "(", ")", '"', "\\", "0", "n", "%", "\n"]) + text[at + 1:]
            try:
                datum = read_datum(changed)
            except BadDatum:
                continue
            self.assertEqual(write_datum(datum), changed)

    def test_error_class(self):
        with self.assertRaises(LikerunError) as caught:
            read_datum("")
        self.assertIs(type(caught.exception), BadDatum)
        self.assertEqual(vars(caught.exception), {})

    def test_result_is_a_tuple(self):
        self.assertIs(type(read_datum("(1 (2))")), tuple)
        self.assertIs(type(read_datum("(1 (2))")[1]), tuple)
        self.assertIs(read_datum("true"), True)
        self.assertIs(type(read_datum("1")), int)
