"""Points 4 to 8: characters, tokens, logical lines, indentation, the end."""

import unittest

from likerun.errors import BadIndent, BadSign, BadToken, TooDeep, TooLong
from likerun.signs import tokens
from tests.helpers import SourceCase

KEYWORDS = (
    "and as break class continue def del elif else except False finally for from global if in is"
    " lambda mod None nonlocal not or pass raise return True try while with yield"
).split()
SIGNS = "//= += -= *= // == != <= >= < > = + - * ( ) [ ] { } , : .".split()
PARTNERS = {"(": ")", "[": "]", "{": "}"}


def brief(text):
    """Return the kinds and words of the tokens, without the ends of lines and the text."""
    return [mark[:2] for mark in tokens(text) if mark[0] not in ("newline", "end")]


def blocks(depth):
    """Return a text whose last line stands within so many blocks."""
    return "\n".join(" " * level + "x" for level in range(depth + 1))


class SignsCase(SourceCase):

    def refused(self, text, error, line, column):
        self.assert_refused(tokens, text, error, line, column)

    def accepted(self, text):
        self.assert_accepted(tokens, text)


class TestCharacters(SignsCase):

    def test_example_of_the_interface(self):
        self.assert_same(tokens("x = 1"), [
            ("name", "x", 1, 1), ("sign", "=", 1, 3), ("number", 1, 1, 5),
            ("newline", "", 1, 6), ("end", "", 2, 1)])

    def test_result_is_a_new_list_of_tuples(self):
        first = tokens("x = 1")
        second = tokens("x = 1")
        self.assertIs(type(first), list)
        self.assertIsNot(first, second)
        first.clear()
        self.assertEqual(len(second), 5)
        self.assertEqual(len(tokens("x = 1")), 5)
        for mark in second:
            self.assertIs(type(mark), tuple)

    def test_empty_text(self):
        self.assert_same(tokens(""), [("end", "", 1, 1)])

    def test_6000_characters(self):
        for text in ("x\n" * 3000, "\n" * 6000, ("#" * 119 + "\n") * 50, " " * 60 + ("\n" + " " * 98) * 60):
            self.assertEqual(len(text), 6000)
            self.accepted(text)
            self.accepted(text[1:])
            self.refused(text + "\n", TooLong, 1, 1)
            self.refused(text + "x", TooLong, 1, 1)
        self.refused("\n" * 6001, TooLong, 1, 1)
        self.refused("\n" * 60000, TooLong, 1, 1)

    def test_rows_of_120_characters(self):
        for row in ("#" * 120, " " * 120, "x" + " " * 119, '"' + "a" * 118 + '"', " " * 60 + "#" * 60):
            self.accepted(row)
            self.accepted("x\n" + row + "\nx")
        for row in ("#" * 121, " " * 121, "x" + " " * 120, "#" * 500, '"' + "a" * 119 + '"'):
            self.refused(row, TooLong, 1, 121)
            self.refused("x\n\n" + row + "\nx", TooLong, 3, 121)
            self.refused("x\n" + row + "\n" + row, TooLong, 2, 121)

    def test_other_characters(self):
        for sign in ("\t", "%", "\u00e9", "\x7f", "\x00", "\r", "\x0b", "\x0c", "\x1f", "\x85", "\u2028",
                     "\U0001f600", "\ud800", "\u0660", "\u00a0"):
            self.refused(sign, BadSign, 1, 1)
            self.refused(sign + "x = 1", BadSign, 1, 1)
            self.refused("x = " + sign + "1", BadSign, 1, 5)
            self.refused("x = 1" + sign, BadSign, 1, 6)
            self.refused("x = 1\n" + sign, BadSign, 2, 1)
            self.refused("x\n\n  " + sign + "\nx", BadSign, 3, 3)
            self.refused("x # " + sign, BadSign, 1, 5)
            self.refused("'" + sign + "'", BadSign, 1, 2)
            self.refused("x\n" * 40 + "ab" + sign + "\n" + sign, BadSign, 41, 3)

    def test_each_allowed_character(self):
        for n in range(32, 127):
            if n != 37:
                self.accepted("#" + chr(n))

    def test_order_of_the_checks(self):
        # The length of the text goes first, then the characters, then the rows.
        self.refused("\t" + "\n" * 6000, TooLong, 1, 1)
        self.refused("\n" * 6000 + "\t", TooLong, 1, 1)
        self.refused("#" * 121 + "\n" * 5880, TooLong, 1, 1)
        self.refused("#" * 121 + "\n\t", BadSign, 2, 1)
        self.refused("#" * 130 + "\t", BadSign, 1, 131)
        self.refused("\t" + "#" * 130, BadSign, 1, 1)
        self.refused("x\n" + "#" * 121 + "\n y\n(\n%", BadSign, 5, 1)
        # All of these go before the tokens.
        self.refused("?\n\t", BadSign, 2, 1)
        self.refused("?\n" + "#" * 121, TooLong, 2, 121)
        self.refused(")\n  x\n01\n" + "#" * 121, TooLong, 4, 121)


class TestTokens(SignsCase):

    def test_names(self):
        self.assert_same(brief("a B _ a1 _a __b_2 iff Not none true lAmbda x0Y_z"), [
            ("name", word) for word in "a B _ a1 _a __b_2 iff Not none true lAmbda x0Y_z".split()])
        self.assert_same(brief("az AZ _09"), [("name", "az"), ("name", "AZ"), ("name", "_09")])

    def test_length_of_names(self):
        self.assert_same(brief("x" * 30), [("name", "x" * 30)])
        self.assert_same(brief("_" + "9" * 29), [("name", "_" + "9" * 29)])
        self.refused("x" * 31, BadToken, 1, 1)
        self.refused("a b\nc  " + "x" * 31 + " ?", BadToken, 2, 4)
        self.refused("x" * 100, BadToken, 1, 1)

    def test_keywords(self):
        for word in KEYWORDS:
            self.assert_same(tokens(word)[0], ("keyword", word, 1, 1))
            self.assert_same(brief(word + "_"), [("name", word + "_")])
            self.assert_same(brief(word + "1 x" + word), [("name", word + "1"), ("name", "x" + word)])
        self.assertEqual(len(KEYWORDS), 32)
        for word in ("assert", "async", "await", "import", "print", "match", "none", "self"):
            self.assert_same(brief(word), [("name", word)])

    def test_numbers(self):
        self.assert_same(brief("0 7 10 1024 9999"), [
            ("number", 0), ("number", 7), ("number", 10), ("number", 1024), ("number", 9999)])
        self.assert_same(brief("1.5"), [("number", 1), ("sign", "."), ("number", 5)])
        self.assert_same(brief("-3"), [("sign", "-"), ("number", 3)])
        self.assert_same(brief("1+2"), [("number", 1), ("sign", "+"), ("number", 2)])
        self.assert_same(brief("1'a'"), [("number", 1), ("text", "a")])

    def test_length_of_numbers(self):
        self.assert_same(brief("9" * 40), [("number", 10 ** 40 - 1)])
        self.assert_same(brief("1" + "0" * 39), [("number", 10 ** 39)])
        self.refused("9" * 41, BadToken, 1, 1)
        self.refused("x = 1" + "0" * 40, BadToken, 1, 5)
        self.refused("1" * 120, BadToken, 1, 1)

    def test_wrong_numbers(self):
        for text in ("00", "01", "007", "0" * 50, "1a", "1_", "0x", "0_", "12_3", "1if", "9Z", "0e1"):
            self.refused(text, BadToken, 1, 1)
            self.refused("x = [" + text, BadToken, 1, 6)

    def test_texts(self):
        self.assert_same(brief("\"\" ''"), [("text", ""), ("text", "")])
        self.assert_same(brief("\"a b\" 'c # d'"), [("text", "a b"), ("text", "c # d")])
        self.assert_same(brief("\"it's\" 'a \"b\"'"), [("text", "it's"), ("text", 'a "b"')])
        self.assert_same(brief("'a''b'"), [("text", "a"), ("text", "b")])
        self.assert_same(brief("x'a'y"), [("name", "x"), ("text", "a"), ("name", "y")])
        self.assert_same(brief("'if' '(' '1' 'x'"), [
            ("text", "if"), ("text", "("), ("text", "1"), ("text", "x")])

    def test_escapes(self):
        for quote in "\"'":
            for escape, sign in (("n", "\n"), ("\\", "\\"), ("'", "'"), ('"', '"')):
                self.assert_same(brief(quote + "\\" + escape + quote), [("text", sign)])
                self.assert_same(brief(quote + "a\\" + escape + "b" + quote), [("text", "a" + sign + "b")])
        self.assert_same(brief("'\\\\n'"), [("text", "\\n")])
        self.assert_same(brief("'\\\\' 'b'"), [("text", "\\"), ("text", "b")])
        self.assert_same(brief("'\\'' x"), [("text", "'"), ("name", "x")])

    def test_bad_escapes(self):
        for sign in "tr0xNuab {#(":
            self.refused("'\\" + sign + "'", BadToken, 1, 2)
            self.refused('x = "ab\\' + sign + '"', BadToken, 1, 8)
        self.refused("'\\\\\\t'", BadToken, 1, 4)
        self.refused("'\\n\\n\\a\\b'", BadToken, 1, 6)

    def test_texts_without_end(self):
        for text in ("'", '"', "'a", '"a', "'a\"", "\"a'", "'a\\'", '"\\"', "'\\\\\\'", "'a # b"):
            self.refused(text, BadToken, 1, 1)
            self.refused("x\ny + " + text + "\n'", BadToken, 2, 5)
            self.refused("(" + text + "\n')", BadToken, 1, 2)

    def test_backslash_at_the_end_of_the_line(self):
        for text in ("'\\", "'ab\\", '"\\', '"\\\\\\', "'\\n\\"):
            self.refused(text, BadToken, 1, 1)
            self.refused("x = " + text + "\n'", BadToken, 1, 5)

    def test_bad_escape_ahead_of_a_missing_quote(self):
        self.refused("'a\\b", BadToken, 1, 3)
        self.refused("'a\\b\\", BadToken, 1, 3)
        self.refused("x '\\t", BadToken, 1, 4)
        self.refused("'\\q c\n'", BadToken, 1, 2)

    def test_signs(self):
        for sign in SIGNS:
            if sign in PARTNERS.values():
                continue
            text = sign + PARTNERS.get(sign, "")
            self.assert_same(tokens("x " + text)[1], ("sign", sign, 1, 3))
            self.assert_same(tokens("x" + text)[1], ("sign", sign, 1, 2))
        self.assert_same(brief("()[]{}"), [("sign", sign) for sign in "()[]{}"])

    def test_longest_sign(self):
        rows = (
            ("//==", ["//=", "="]), ("===", ["==", "="]), ("//+=", ["//", "+="]),
            ("+==", ["+=", "="]), ("<==", ["<=", "="]), (">==", [">=", "="]), ("!==", ["!=", "="]),
            ("**", ["*", "*"]), ("**=", ["*", "*="]), ("--=", ["-", "-="]), ("<<", ["<", "<"]),
            ("<>", ["<", ">"]), ("=>", ["=", ">"]), ("=<=", ["=", "<="]), (":=", [":", "="]),
            ("////", ["//", "//"]), ("////=", ["//", "//="]), ("->", ["-", ">"]), ("...", [".", ".", "."]),
            ("=!=", ["=", "!="]), ("====", ["==", "=="]), ("+=+", ["+=", "+"]), (",:.", [",", ":", "."]),
        )
        for text, signs in rows:
            self.assert_same(brief(text), [("sign", sign) for sign in signs])
        self.refused("///=", BadToken, 1, 3)
        self.refused("///", BadToken, 1, 3)

    def test_characters_that_begin_no_token(self):
        for sign in "!$&/;?@\\^`|~":
            self.refused(sign, BadToken, 1, 1)
            self.refused("x" + sign, BadToken, 1, 2)
            self.refused("x = 1\ny " + sign + " z", BadToken, 2, 3)
            self.refused("(\n" + sign, BadToken, 2, 1)
        self.refused("a ! = b", BadToken, 1, 3)
        self.refused("a / b", BadToken, 1, 3)
        self.refused("a /= b", BadToken, 1, 3)

    def test_first_fault_goes_first(self):
        self.refused("? '", BadToken, 1, 1)
        self.refused("x 01 ?", BadToken, 1, 3)
        self.refused("x\n y\n?", BadToken, 3, 1)
        self.refused("x\n  y\n z\n?", BadIndent, 3, 2)

    def test_spaces_and_comments(self):
        self.assert_same(tokens("  # only\nx  =1 # 'c' ( \n#"), [
            ("name", "x", 2, 1), ("sign", "=", 2, 4), ("number", 1, 2, 5),
            ("newline", "", 2, 6), ("end", "", 3, 1)])
        self.assert_same(brief("x#y"), [("name", "x")])
        self.assert_same(brief("'#'#"), [("text", "#")])
        self.assert_same(brief("x # ? \\ ' ( 01"), [("name", "x")])
        self.assert_same(brief("x   \n   # c\n"), [("name", "x")])

    def test_places(self):
        self.assert_same(tokens("ab  'c\\n'  <=12\n  q"), [
            ("name", "ab", 1, 1), ("text", "c\n", 1, 5), ("sign", "<=", 1, 12), ("number", 12, 1, 14),
            ("newline", "", 1, 16), ("indent", "", 2, 3), ("name", "q", 2, 3), ("newline", "", 2, 4),
            ("dedent", "", 3, 1), ("end", "", 3, 1)])


class TestLogicalLines(SignsCase):

    def test_newline_stands_behind_the_last_token(self):
        for text, column in (("x", 2), ("x   ", 2), ("x # c", 2), ("'a\\n'", 6), ("x ==", 5), ("100  ", 4),
                             ("if", 3), ("'a'  #", 4)):
            marks = tokens(text)
            self.assertEqual(marks[-2], ("newline", "", 1, column), text)
            self.assertEqual(marks[-1], ("end", "", 2, 1), text)

    def test_rows_broken_within_brackets(self):
        for opening, closing in PARTNERS.items():
            self.assert_same(tokens("x" + opening + "\n1,\n        2" + closing + "\ny"), [
                ("name", "x", 1, 1), ("sign", opening, 1, 2), ("number", 1, 2, 1), ("sign", ",", 2, 2),
                ("number", 2, 3, 9), ("sign", closing, 3, 10), ("newline", "", 3, 11),
                ("name", "y", 4, 1), ("newline", "", 4, 2), ("end", "", 5, 1)])

    def test_empty_rows_and_comments_within_a_logical_line(self):
        self.assert_same(tokens("[ # a\n\n   # b ]\n  1\n     \n# c\n  ]  # d\n\n# e"), [
            ("sign", "[", 1, 1), ("number", 1, 4, 3), ("sign", "]", 7, 3), ("newline", "", 7, 4),
            ("end", "", 8, 1)])

    def test_empty_rows_and_comments_between_logical_lines(self):
        self.assert_same(tokens("\n\n  \nx\n\n      # far\n#\ny\n"), [
            ("name", "x", 4, 1), ("newline", "", 4, 2), ("name", "y", 8, 1), ("newline", "", 8, 2),
            ("end", "", 9, 1)])
        self.assert_same(tokens("x\n  y\n\n# c\n      # d\n  z"), [
            ("name", "x", 1, 1), ("newline", "", 1, 2), ("indent", "", 2, 3), ("name", "y", 2, 3),
            ("newline", "", 2, 4), ("name", "z", 6, 3), ("newline", "", 6, 4),
            ("dedent", "", 7, 1), ("end", "", 7, 1)])

    def test_brackets_within_brackets(self):
        self.assertEqual(len(tokens("([{}])\n{\n[\n(\n)\n]\n}")), 15)
        self.assert_same(tokens("(\n[\n]\n)\nx")[4:], [
            ("newline", "", 4, 2), ("name", "x", 5, 1), ("newline", "", 5, 2), ("end", "", 6, 1)])
        self.assert_same(tokens("'(' \n  # (\nx")[:3], [
            ("text", "(", 1, 1), ("newline", "", 1, 4), ("name", "x", 3, 1)])

    def test_a_logical_line_may_begin_and_end_in_other_rows(self):
        self.assert_same(tokens("a(\n) + b(\n) + c\nd"), [
            ("name", "a", 1, 1), ("sign", "(", 1, 2), ("sign", ")", 2, 1), ("sign", "+", 2, 3),
            ("name", "b", 2, 5), ("sign", "(", 2, 6), ("sign", ")", 3, 1), ("sign", "+", 3, 3),
            ("name", "c", 3, 5), ("newline", "", 3, 6), ("name", "d", 4, 1), ("newline", "", 4, 2),
            ("end", "", 5, 1)])

    def test_closing_brackets_that_do_not_fit(self):
        self.refused("(]", BadToken, 1, 2)
        self.refused("(}", BadToken, 1, 2)
        self.refused("[)", BadToken, 1, 2)
        self.refused("[}", BadToken, 1, 2)
        self.refused("{)", BadToken, 1, 2)
        self.refused("{]", BadToken, 1, 2)
        self.refused("([)]", BadToken, 1, 3)
        self.refused("(\n[\n  )", BadToken, 3, 3)
        self.refused("([]]", BadToken, 1, 4)

    def test_closing_brackets_where_none_is_open(self):
        for sign in ")]}":
            self.refused(sign, BadToken, 1, 1)
            self.refused("x " + sign + " (", BadToken, 1, 3)
            self.refused("()\n{}[]" + sign, BadToken, 2, 5)

    def test_brackets_that_are_never_closed(self):
        for sign in "([{":
            self.refused(sign, BadToken, 1, 1)
            self.refused("x\ny " + sign + "\nz = 1\n\n# c", BadToken, 2, 3)
        self.refused("([{", BadToken, 1, 3)
        self.refused("(\n[\n {} [] ()\n", BadToken, 2, 1)
        self.refused("({}[", BadToken, 1, 4)
        self.refused("[(\n)\n", BadToken, 1, 1)
        self.refused("f(\n  x\nif y:\n z", BadToken, 1, 2)

    def test_120_tokens(self):
        self.assertEqual(len(tokens("." * 120)), 122)
        self.accepted("(\n" + "x " * 59 + "\n" + "y " * 59 + ")")
        self.refused("(\n" + "x " * 59 + "\n" + "y " * 59 + ".)", TooLong, 3, 120)
        self.refused("(\n" + "x " * 60 + "\n" + "y " * 59 + "\n   z)", TooLong, 4, 4)
        self.refused("(" + "\n." * 119 + "\n  .", TooLong, 121, 3)
        self.refused("(" + "\n" * 5 + "." * 119 + "\n[", TooLong, 7, 1)

    def test_newline_indent_and_dedent_do_not_count(self):
        self.accepted("x\n " + "." * 119 + "\n" + "." * 120 + "\n" + "." * 120)
        self.accepted("x\n (\n" + "." * 118 + ")\n" + "y")
        self.accepted("a\n b\n  c\n(" + "\n" + "." * 118 + "\n)")

    def test_comments_and_empty_rows_do_not_count(self):
        self.accepted("(\n" + "." * 118 + "\n\n# c\n)")

    def test_errors_at_the_121st_token(self):
        start = "(\n" + "." * 119 + "\n"
        self.refused(start + "x", TooLong, 3, 1)
        # Its own error goes first.
        for token in ("?", "01", "'", "x" * 31, "9" * 41, "1a", "!", "'\\", '"a'):
            self.refused(start + " " + token, BadToken, 3, 2)
        self.refused(start + "'a\\b'", BadToken, 3, 3)
        # A bracket that does not fit, or is never closed, goes behind.
        self.refused(start + "]", TooLong, 3, 1)
        self.refused(start + ")", TooLong, 3, 1)
        self.refused(start + "}", TooLong, 3, 1)
        self.refused(start, BadToken, 1, 1)
        self.refused("(\n" + "." * 118 + "\n]", BadToken, 3, 1)
        self.refused("(\n" + "." * 118 + "\n[", BadToken, 3, 1)
        self.refused("(\n" + "." * 118 + "\n) ]", TooLong, 3, 3)
        self.refused("(\n" + "." * 118 + "\n)\n]", BadToken, 4, 1)

    def test_own_error_goes_ahead_of_a_bracket_that_does_not_fit(self):
        self.refused("(?]", BadToken, 1, 2)
        self.refused("(] ?", BadToken, 1, 2)


class TestIndentation(SignsCase):

    def test_indents_and_dedents(self):
        self.assert_same(tokens("a\n  b\n     c\n     d\n  e\nf"), [
            ("name", "a", 1, 1), ("newline", "", 1, 2),
            ("indent", "", 2, 3), ("name", "b", 2, 3), ("newline", "", 2, 4),
            ("indent", "", 3, 6), ("name", "c", 3, 6), ("newline", "", 3, 7),
            ("name", "d", 4, 6), ("newline", "", 4, 7),
            ("dedent", "", 5, 3), ("name", "e", 5, 3), ("newline", "", 5, 4),
            ("dedent", "", 6, 1), ("name", "f", 6, 1), ("newline", "", 6, 2),
            ("end", "", 7, 1)])

    def test_several_dedents_at_once(self):
        self.assert_same(tokens("a\n b\n  c\n   d\n e\nf")[8:], [
            ("indent", "", 4, 4), ("name", "d", 4, 4), ("newline", "", 4, 5),
            ("dedent", "", 5, 2), ("dedent", "", 5, 2), ("name", "e", 5, 2), ("newline", "", 5, 3),
            ("dedent", "", 6, 1), ("name", "f", 6, 1), ("newline", "", 6, 2), ("end", "", 7, 1)])

    def test_stack_of_11_entries(self):
        marks = tokens(blocks(10))
        self.assertEqual([mark[0] for mark in marks].count("indent"), 10)
        self.assertEqual([mark[0] for mark in marks].count("dedent"), 10)
        self.assertEqual(marks[-11:], [("dedent", "", 12, 1)] * 10 + [("end", "", 12, 1)])

    def test_stack_of_12_entries(self):
        self.refused(blocks(11), TooDeep, 12, 12)
        self.refused(blocks(11) + "\n?", TooDeep, 12, 12)
        self.refused(blocks(10) + "\n\n# c\n" + " " * 30 + "x", TooDeep, 14, 31)
        # What was popped does not count.
        self.accepted(blocks(10) + "\nx\n" + blocks(10))

    def test_fault_of_indentation_goes_ahead_of_a_bad_first_token(self):
        self.refused(blocks(10) + "\n" + " " * 11 + "?", TooDeep, 12, 12)
        self.refused("a\n  b\n ?", BadIndent, 3, 2)
        self.refused(" ?", BadIndent, 1, 2)
        self.refused("  '", BadIndent, 1, 3)
        self.refused("a\n  b\n 01", BadIndent, 3, 2)
        self.refused("a\n  b\n )", BadIndent, 3, 2)
        self.refused("a\n  b\n '\\t'", BadIndent, 3, 2)
        # A good indentation and a bad first token.
        self.refused("a\n  b\n  ?", BadToken, 3, 3)
        self.refused("a\n  ?", BadToken, 2, 3)

    def test_dedent_to_an_indentation_that_is_not_there(self):
        self.refused("a\n  b\n c", BadIndent, 3, 2)
        self.refused("a\n    b\n        c\n      d", BadIndent, 4, 7)
        self.refused("a\n    b\n        c\n  d", BadIndent, 4, 3)
        self.refused("a\n    b\n\n# c\n   d\n?", BadIndent, 5, 4)

    def test_first_logical_line_is_indented(self):
        self.refused(" x", BadIndent, 1, 2)
        self.refused("    x", BadIndent, 1, 5)
        self.refused("\n# c\n\n  x\ny", BadIndent, 4, 3)
        self.refused("   x\ny\n ?", BadIndent, 1, 4)
        self.accepted("   # c\nx")
        self.accepted("   \nx")

    def test_rows_within_brackets_have_no_indentation(self):
        self.assert_same(brief("a(\n      b\n c)\nd"), [
            ("name", "a"), ("sign", "("), ("name", "b"), ("name", "c"), ("sign", ")"), ("name", "d")])
        self.assertEqual([mark[0] for mark in tokens("a\n (\nb\n)\n c")], [
            "name", "newline", "indent", "sign", "name", "sign", "newline", "name", "newline", "dedent", "end"])

    def test_spaces_of_comment_rows_are_no_indentation(self):
        self.assertEqual([mark[0] for mark in tokens("a\n  b\n # c\n\n   # d\n  e")], [
            "name", "newline", "indent", "name", "newline", "name", "newline", "dedent", "end"])


class TestEnd(SignsCase):

    def test_no_tokens(self):
        for text in ("", "\n", "\n\n\n", "# c", "  # c\n\n   ", "     ", "#\n#\n"):
            self.assert_same(tokens(text), [("end", "", 1, 1)])

    def test_example_of_the_point(self):
        self.assert_same(tokens("x\n\n# c"), [
            ("name", "x", 1, 1), ("newline", "", 1, 2), ("end", "", 2, 1)])

    def test_empty_rows_and_comments_do_not_count(self):
        for behind in ("", "\n", "\n\n", "\n\n# c", "\n# c\n\n", "  # c\n", "\n        # c\n     \n"):
            self.assert_same(tokens("x" + behind), [
                ("name", "x", 1, 1), ("newline", "", 1, 2), ("end", "", 2, 1)])
            self.assert_same(tokens("\nx\n  y\n    z" + behind), [
                ("name", "x", 2, 1), ("newline", "", 2, 2),
                ("indent", "", 3, 3), ("name", "y", 3, 3), ("newline", "", 3, 4),
                ("indent", "", 4, 5), ("name", "z", 4, 5), ("newline", "", 4, 6),
                ("dedent", "", 5, 1), ("dedent", "", 5, 1), ("end", "", 5, 1)])

    def test_end_behind_a_broken_row(self):
        self.assert_same(tokens("x\n (\n\n)\n\n")[-3:], [
            ("newline", "", 4, 2), ("dedent", "", 5, 1), ("end", "", 5, 1)])


if __name__ == "__main__":
    unittest.main()
