"""Points 81 to 89, and replay of point 90."""

import random
import unittest

from likerun.checker import check_code
from likerun.code import Code, Compiled, write_code
from likerun.compiler import compile_program
from likerun.errors import BadCode, BadPaper
from likerun.machine import Machine
from likerun.papers import apply_paper, replay
from tests.codes import OPERATORS, PLAIN, random_codes
from tests.machines import (
    FALSE, LINE, NONE, POP, PUSH_NONE, RETURN, TRUE, MachineCase, assembled, compiled_text, main, number, text, unit)
from tests.programs import random_program
from tests.second_papers import all_papers

ONE, TWO, A = number(1), number(2), text("a")
NOT = ("unary", "not")
END = (PUSH_NONE, RETURN)
CALL = ("call", 0, ())


def keep(name):
    return ("store_global", name)


def get(name):
    return ("load_global", name)


class PaperCase(MachineCase):

    def codes(self, *rows, handlers=(), slots=("a", "b", "c"), units=(), **fields):
        """Return codes whose unit 1 has these rows behind a line, as they stand."""
        return Compiled([main(), unit("f", LINE, *rows, handlers=handlers, slots=slots, **fields)] + list(units))

    def gives(self, codes, paper, *rows, handlers=(), extra=None):
        """The paper makes a unit 1 with these rows, and the codes are not changed by it."""
        with self.subTest(paper=paper, rows=codes.codes[1].instructions):
            before = write_code(codes)
            found = apply_paper(codes, paper)
            self.assertEqual(write_code(codes), before)
            rows, handlers = assembled((LINE,) + rows, handlers)
            code = codes.codes[1]
            wanted = Code(code.name, code.line, rows, parameters=code.parameters, defaults=code.defaults, slots=code.slots,
                          cells=code.cells, free=code.free, yields=code.yields,
                          extra=code.extra if extra is None else extra, handlers=handlers)
            self.assertEqual(found.codes[1].instructions, wanted.instructions)
            self.assertEqual(found.codes[1].handlers, wanted.handlers)
            self.assertTrue(found == Compiled(codes.codes[:1] + (wanted,) + codes.codes[2:]))
            self.assertIsInstance(found.codes[1].instructions, tuple)
            self.assertTrue(replay(codes, (paper,)) == found)
            return found

    def refuses(self, codes, paper):
        with self.subTest(paper=paper, rows=codes.codes[1].instructions):
            check_code(codes)
            for action, given in ((apply_paper, paper), (replay, [paper])):
                with self.assertRaises(BadPaper) as caught:
                    action(codes, given)
                self.assertIs(caught.exception.paper, paper)


class TestForms(PaperCase):

    def test_no_papers(self):
        codes = self.codes(ONE, POP, *END)
        self.gives(codes, ("tidy", 1, 1), *END)
        for paper in (None, 5, "tidy", (), ("tidy",), ("tidy", 1), ("tidy", 1, 1, 1), ["tidy", 1, 1], ("Tidy", 1, 1),
                      ("what", 1, 1), (5, 1, 1), (("tidy",), 1, 1), ("", 1, 1), (None, 1, 1), ("tidy", "f", 1), ("tidy", None, 1),
                      ("tidy", True, 1), ("tidy", 1, True), ("tidy", 1, "1"), ("tidy", 1, (1,)), ("tidy", 2, 1), ("tidy", -1, 1),
                      ("tidy", 1, 5), ("tidy", 1, -4), ("copies", 1, 1), ("inline", 1, 1), ("fold", 1, 1, 1), ("dead", 1)):
            self.refuses(codes, paper)

    def test_indexes_and_callees(self):
        codes = self.codes(ONE, ("store", 0), ("load", 0), get("g"), CALL, POP, POP, *END,
                           units=[unit("g", LINE, ONE, RETURN)])
        self.gives(codes, ("copies", 1, 2, 3), ONE, ("copy",), ("store", 0), get("g"), CALL, POP, POP, *END)
        for paper in (("copies", 1, 2, True), ("copies", 1, 2, 10), ("copies", 1, -8, 3), ("copies", 1, 2, -7),
                      ("copies", 1, 2, None), ("copies", 1, 3, 2), ("copies", 1, 2, 2)):
            self.refuses(codes, paper)
        self.assertEqual(len(apply_paper(codes, ("inline", 1, 5, 2)).codes[1]), 16)
        for paper in (("inline", 1, 5, -1), ("inline", 1, 5, 3), ("inline", 1, 5, None), ("inline", 1, 5, True),
                      ("inline", 1, -5, 2), ("inline", 1, 10, 2), ("inline", 3, 5, 2)):
            self.refuses(codes, paper)

    def test_codes_that_the_checker_refuses(self):
        codes = Compiled([main(), unit("f", LINE, POP, *END)])
        for paper in (("tidy", 1, 1), "what", ("fold", 9, 9)):
            for action, given in ((apply_paper, paper), (replay, (paper,))):
                with self.assertRaises(BadCode) as caught:
                    action(codes, given)
                self.same(caught.exception.unit, 1)

    def test_replay(self):
        codes = self.codes(ONE, POP, TWO, POP, *END)
        papers = (("tidy", 1, 3), ("tidy", 1, 1))
        for given in (papers, list(papers)):
            found = replay(codes, given)
            self.same(found.codes[1].instructions, (LINE,) + END)
        self.assertTrue(apply_paper(apply_paper(codes, papers[0]), papers[1]) == found)
        # The first one that is refused: with the second one applied first, the other one is at another place.
        with self.assertRaises(BadPaper) as caught:
            replay(codes, (papers[1], papers[0], papers[1], 5))
        self.same(caught.exception.paper, papers[0])
        broken = Compiled([main(POP)])
        self.assertIs(replay(broken, ()), broken)
        self.assertIs(replay(codes, []), codes)

    def test_a_paper_of_another_unit(self):
        codes = Compiled([main(ONE, POP), unit("f", LINE, *END), unit("g", LINE, TWO, POP, *END)])
        found = apply_paper(codes, ("tidy", 2, 1))
        self.assertTrue(found.codes[:2] == codes.codes[:2])
        self.same(found.codes[2].instructions, (LINE,) + END)
        self.same(apply_paper(codes, ("tidy", 0, 1)).codes[0].instructions, (LINE,) + END)


class TestReplacing(PaperCase):
    """Point 82, by folds: three instructions from the index 3 become one."""

    def test_targets(self):
        # Before, at, behind: the targets of instructions that stand before and behind.
        self.gives(self.codes("a", ("line", 1), get("x"), "b", ONE, ONE, ("binary", "+"), "c", POP, ("jump_true", "@d"),
                              ("jump", "@a"), "d", *END),
                   ("fold", 1, 3), "a", ("line", 1), get("x"), "b", TWO, "c", POP, ("jump_true", "@d"), ("jump", "@a"), "d", *END)
        for label in ("@b", "@c"):
            rows = (TWO, ("jump_true", label), ("line", 3), "b")
            if label == "@c":
                rows = (TWO, TWO, ("jump_true", label), POP, "b")
            at = len(rows)
            behind = ("c", POP, *END)
            self.gives(self.codes(*rows, ONE, ONE, ("binary", "+"), *behind), ("fold", 1, at), *rows, TWO, *behind)

    def test_targets_of_instructions_to_which_no_way_leads(self):
        def codes(target):
            return self.codes("b", ("line", 1), ONE, "m", ONE, "n", ("binary", "+"), "c", POP, *END, ("jump_true", target), *END)
        # Forward targets only: the unreachable jump stands before the rows.

        def before(target):
            return self.codes(("jump", "@b"), ("jump", target), "b", ONE, "m", ONE, "n", ("binary", "+"), "c", POP, *END)
        for label in ("@m", "@n"):
            self.refuses(before(label), ("fold", 1, 3))
        for label in ("@b", "@c"):
            self.gives(before(label), ("fold", 1, 3), ("jump", "@b"), ("jump", label), "b", TWO, "c", POP, *END)
        self.gives(codes("@b"), ("fold", 1, 2), "b", ("line", 1), TWO, POP, *END, ("jump_true", "@b"), *END)

    def test_bounds_and_targets_of_handlers(self):
        rows = (get("x"), POP, "b", ONE, "m", ONE, "n", ("binary", "+"), "c", POP, "d", *END, "h", ("cut", 0), *END)
        after = (get("x"), POP, "b", TWO, "c", POP, "d", *END, "h", ("cut", 0), *END)
        for start, end in ((1, "@b"), (1, "@c"), ("@b", "@c"), ("@b", "@d"), ("@c", "@d"), (1, "@h")):
            row = (start, end, "@h", 0)
            self.gives(self.codes(*rows, handlers=(row,)), ("fold", 1, 3), *after, handlers=(row,))
        for start, end in ((1, "@m"), (1, "@n"), ("@m", "@c"), ("@n", "@d"), ("@b", "@n"), ("@m", "@n")):
            self.refuses(self.codes(*rows, handlers=((start, end, "@h", 0),)), ("fold", 1, 3))
        # A target of a handler at the rows, or among them; the handler's own instruction is before.
        for label, good in (("@b", True), ("@m", False), ("@n", False), ("@c", True)):
            codes = self.codes(("line", 5), ("jump", "@b"), "b", ONE, "m", ONE, "n", ("binary", "+"), "c", POP, *END,
                               handlers=((1, 2, label, 0),))
            if good:
                self.gives(codes, ("fold", 1, 3), ("line", 5), ("jump", "@b"), "b", TWO, "c", POP, *END,
                           handlers=((1, 2, label, 0),))
            else:
                self.refuses(codes, ("fold", 1, 3))

    def test_handlers_whose_range_becomes_empty(self):
        rows = (get("x"), POP, "b", ONE, POP, "c", TWO, POP, *END, "h", ("cut", 0), *END)
        codes = self.codes(*rows, handlers=(("@b", "@c", "@h", 0), ("@b", 7, "@h", 0), (1, "@b", "@h", 0)))
        self.gives(codes, ("tidy", 1, 3), get("x"), POP, "b", TWO, POP, *END, "h", ("cut", 0), *END,
                   handlers=(("@b", 5, "@h", 0), (1, "@b", "@h", 0)))

    def test_a_target_behind_the_end(self):
        # The last two instructions, to which no way leads, are aimed at by another one of this kind.
        codes = self.codes(*END, ("jump", "@b"), "b", ("line", 1), ("jump", "@b"), ONE, POP)
        self.gives(codes, ("tidy", 1, 6), *END, ("jump", "@b"), "b", ("line", 1), ("jump", "@b"))
        codes = self.codes(*END, ("jump", "@b"), "b", ONE, POP)
        self.refuses(codes, ("tidy", 1, 4))
        codes = self.codes(ONE, POP, *END, ONE, "b", POP, handlers=((1, 2, "@b", 0),))
        self.refuses(codes, ("tidy", 1, 5))


class TestFold(PaperCase):

    def folds(self, *rows, gives):
        codes = self.codes(A, *rows, POP, POP, *END)
        self.gives(codes, ("fold", 1, 2), A, ("push", gives), POP, POP, *END)

    def test_what_is_folded(self):
        self.folds(ONE, TWO, ("binary", "+"), gives=("number", 3))
        self.folds(A, TWO, ("binary", "*"), gives=("text", "aa"))
        self.folds(number(-7), TWO, ("binary", "//"), gives=("number", -4))
        self.folds(number(-7), TWO, ("binary", "mod"), gives=("number", 1))
        self.folds(ONE, TWO, ("compare", "<"), gives=TRUE)
        self.folds(ONE, PUSH_NONE, ("compare", "is not"), gives=TRUE)
        self.folds(A, text("ab"), ("compare", "not in"), gives=FALSE)
        self.folds(("push", ("builtin", "len")), ("push", ("builtin", "len")), ("compare", "=="), gives=TRUE)
        self.folds(ONE, ("unary", "-"), gives=("number", -1))
        self.folds(PUSH_NONE, NOT, gives=TRUE)
        self.folds(("push", ("errorclass", "Error")), NOT, gives=FALSE)
        self.folds(number(10 ** 60 - 1), ("unary", "-"), gives=("number", 1 - 10 ** 60))

    def test_operations_that_raise(self):
        for rows in ((ONE, number(0), ("binary", "//")), (A, ("unary", "-")), (ONE, A, ("binary", "+")), (ONE, A, ("compare", "<")),
                     (ONE, ONE, ("compare", "in")), (number(10 ** 59), number(10), ("binary", "*")),
                     (text("a" * 400), text("b" * 101), ("binary", "+")), (A, number(501), ("binary", "*"))):
            self.refuses(self.codes(A, *rows, POP, POP, *END), ("fold", 1, 2))

    def test_other_instructions(self):
        for rows in ((ONE, ONE), (ONE, ("copy",), ("binary", "+")), (get("x"), ONE, ("binary", "+")), (ONE, get("x"), ("binary", "+")),
                     (get("x"), NOT), (ONE, ONE, ("make_tuple", 2)), (ONE, ONE, ("load_item",)), (ONE, ("line", 2), NOT),
                     (ONE, TWO, NOT)):
            codes = self.codes(A, *rows, ("cut", 0), *END)
            self.refuses(codes, ("fold", 1, 2))
        codes = self.codes(ONE, TWO, NOT, POP, POP, *END)
        self.gives(codes, ("fold", 1, 2), ONE, ("push", FALSE), POP, POP, *END)
        for at in (0, 1, 3, 4, 5, 6, 7):
            self.refuses(codes, ("fold", 1, at))
        # Behind the last instruction is nothing.
        codes = self.codes(*END, ONE, ONE)
        for at in (3, 4):
            self.refuses(codes, ("fold", 1, at))

    def test_all_operations_beside_the_machine(self):
        for op in OPERATORS:
            for x in PLAIN:
                for y in PLAIN[:1] if op[0] == "unary" else PLAIN:
                    operands = [("push", x)] + ([] if op[0] == "unary" else [("push", y)])
                    codes = Compiled([main(*operands, op, keep("x"))])
                    run = Machine(codes)
                    run.finish()
                    if run.end == ("done",):
                        found = apply_paper(codes, ("fold", 0, 1))
                        self.same(found.codes[0].instructions[1:3], (("push", run.held()[0]), keep("x")))
                    else:
                        with self.assertRaises(BadPaper):
                            apply_paper(codes, ("fold", 0, 1))


class TestBranch(PaperCase):

    def test_each_word_and_value(self):
        for value in PLAIN:
            true = value not in (NONE, FALSE, ("number", 0), ("text", ""))
            for word in ("jump_true", "jump_false"):
                codes = self.codes(("push", value), (word, "@d"), ("line", 1), "d", ("line", 2), *END)
                rows = [("jump", "@d")] if true == (word == "jump_true") else []
                self.gives(codes, ("branch", 1, 1), *rows, ("line", 1), "d", ("line", 2), *END)
            for word in ("keep_true", "keep_false"):
                codes = self.codes(("push", value), (word, "@d"), ONE, "d", POP, *END)
                rows = [("push", value), ("jump", "@d")] if true == (word == "keep_true") else []
                self.gives(codes, ("branch", 1, 1), *rows, ONE, "d", POP, *END)

    def test_jumps_backwards(self):
        codes = self.codes("d", ("line", 1), ("push", TRUE), ("jump_true", "@d"), *END)
        self.gives(codes, ("branch", 1, 2), "d", ("line", 1), ("jump", "@d"), *END)

    def test_other_instructions(self):
        for rows in ((get("x"), ("jump_true", "@d")), (ONE, ("copy",)), (ONE, ("line", 1)), (ONE, ("jump", "@d")),
                     (ONE, ("line", 2), ("jump_true", "@d"))):
            self.refuses(self.codes(*rows, ("cut", 0), "d", ("cut", 0), *END), ("branch", 1, 1))
        codes = self.codes(ONE, ("jump_true", "@d"), "d", *END)
        for at in (0, 2, 3, 4):
            self.refuses(codes, ("branch", 1, at))

    def test_targets_between(self):
        codes = self.codes(ONE, ("jump", "@m"), ONE, "m", ("jump_true", "@d"), "d", *END)
        self.refuses(codes, ("branch", 1, 3))
        rows = (ONE, "m", ("keep_true", "@d"), ("line", 3), *END, "d", POP, *END)
        self.refuses(self.codes(*rows, handlers=((1, "@m", "@d", 0),)), ("branch", 1, 1))
        self.gives(self.codes(*rows, handlers=((1, 3, "@d", 0),)), ("branch", 1, 1), ONE, ("jump", "@d"), ("line", 3), *END, "d", POP, *END,
                   handlers=((1, 3, "@d", 0),))


class TestThread(PaperCase):

    def test_each_word(self):
        for word in ("jump_true", "jump_false", "keep_true", "keep_false"):
            stay = word[:4] == "keep"
            rows = (ONE, (word, "@a"), ONE) if stay else (ONE, (word, "@a"), ("line", 1))
            behind = ("line", 3), "b", POP if stay else ("line", 4)
            codes = self.codes(*rows, "a", ("jump", "@b"), *behind, *END)
            self.gives(codes, ("thread", 1, 2), ONE, (word, "@b"), rows[2], "a", ("jump", "@b"), *behind, *END)
        codes = self.codes(("jump", "@a"), ("line", 1), "a", ("jump", "@b"), "b", *END)
        self.gives(codes, ("thread", 1, 1), ("jump", "@b"), ("line", 1), "a", ("jump", "@b"), "b", *END)
        rows = (A, ("get_iterator",), ("line", 1), ("fetch", "{}"), POP, POP, *END, "a", ("jump", "@b"), "b", *END)

        def fetching(label):
            return [(row[0], label) if row[0] == "fetch" else row for row in rows]
        self.gives(self.codes(*fetching("@a")), ("thread", 1, 4), *fetching("@b"))

    def test_guards(self):
        other = unit("g", LINE, *END)
        rows = (A, ("guard", 2, 0, "{}"), POP, *END, "a", ("jump", "@b"), ("line", 2), "b", POP, *END)

        def guarding(label):
            return [row[:3] + (label,) if row[0] == "guard" else row for row in rows]
        self.gives(self.codes(*guarding("@a"), units=[other]), ("thread", 1, 2), *guarding("@b"))

    def test_backwards(self):
        # Through a jump that goes back to a line, and over one from a line that jumps on.
        codes = self.codes("s", ("line", 1), ONE, ("jump_true", "@a"), *END, "a", ("jump", "@s"))
        self.gives(codes, ("thread", 1, 3), "s", ("line", 1), ONE, ("jump_true", "@s"), *END, "a", ("jump", "@s"))

    def test_refused(self):
        codes = self.codes(ONE, ("jump_true", "@a"), ("line", 1), "a", ("jump", "@b"), "b", *END, ("jump", "@s"), "s", ("line", 2),
                           ("jump", "@s"))
        # No target, a target that is no jump, at the end.
        for at in (0, 1, 3, 4, 5, 6, 8, 9):
            self.refuses(codes, ("thread", 1, at))
        self.gives(codes, ("thread", 1, 2), ONE, ("jump_true", "@b"), ("line", 1), "a", ("jump", "@b"), "b", *END, ("jump", "@s"),
                   "s", ("line", 2), ("jump", "@s"))
        for word in ("end_finally", "end_with"):
            codes = self.codes(*END, (word, "@a", "@a", "@a"), ("line", 1), "a", ("jump", "@b"), "b", *END)
            self.refuses(codes, ("thread", 1, 3))

    def test_a_chain_by_two_papers(self):
        rows = (("jump", "@a"), ("line", 1), "a", ("jump", "@b"), ("line", 2), "b", ("jump", "@c"), "c", *END)
        codes = self.gives(self.codes(*rows), ("thread", 1, 1), ("jump", "@b"), *rows[1:])
        self.gives(codes, ("thread", 1, 1), ("jump", "@c"), *rows[1:])


class TestDead(PaperCase):

    def test_what_no_way_leads_to(self):
        codes = self.codes(("jump", "@a"), ("line", 1), POP, "a", *END)
        self.gives(codes, ("dead", 1, (0, 1, 4, 5)), ("jump", "@a"), "a", *END)
        for live in ((0, 1, 4), (0, 1, 5), (0, 4, 5), (1, 4, 5), (0, 1), (0,), (), (0, 1, 3, 4), (0, 1, 2, 4, 5),
                     (0, 1, 2, 3, 4, 5), (0, 1, 5, 4), (0, 1, 1, 4, 5), (0, 0, 1, 4, 5), (-1, 0, 1, 4, 5), (0, 1, 4, 5, 6), None, 5,
                     [0, 1, 4, 5], (0, True, 4, 5), (False, 1, 4, 5), (0, 1, 4, "5"), ((0,), 1, 4, 5)):
            self.refuses(codes, ("dead", 1, live))
        # More than needed, with all that comes next.
        self.gives(codes, ("dead", 1, (0, 1, 3, 4, 5)), ("jump", "@a"), POP, "a", *END)

    def test_all_targets_count(self):
        rows = (("leave", 0, 0), ("end_finally", "@a", "@b", -1), *END, ("line", 9), "a", POP, *END, ("line", 9), "b", *END)
        self.gives(self.codes(*rows), ("dead", 1, (0, 1, 2, 3, 4, 6, 7, 8, 10, 11)),
                   *[row for row in rows if row != ("line", 9)])
        for lost in (6, 10):
            live = tuple(at for at in (0, 1, 2, 3, 4, 6, 7, 8, 10, 11) if at != lost)
            self.refuses(self.codes(*rows), ("dead", 1, live))
        # The next index of an end_finally counts, also where its reason cannot come.
        rows = (("leave", 0, 2), ("end_finally", -1, "@b", -1), ("line", 8), *END, "b", *END)
        self.refuses(self.codes(*rows), ("dead", 1, (0, 1, 2, 6, 7)))
        for word in ("jump_true", "keep_true"):
            rows = (ONE, (word, "@a"), ONE, "a", ("cut", 0), *END, ("line", 3), *END)
            if word == "jump_true":
                rows = rows[:2] + rows[3:]
            many = len([row for row in rows if row != "a"]) + 1
            self.gives(self.codes(*rows), ("dead", 1, tuple(range(many - 3))), *rows[:-3])
            self.refuses(self.codes(*rows), ("dead", 1, tuple(at for at in range(many - 3) if at != 3)))

    def test_handlers(self):
        rows = (get("x"), POP, *END, "h", ("cut", 0), *END, ("line", 9), *END)
        handler = (1, 2, "@h", 0)
        codes = self.codes(*rows, handlers=(handler,))
        self.gives(codes, ("dead", 1, tuple(range(8))), *rows[:-3], handlers=(handler,))
        # An instruction that may raise an error has the way to its handler.
        self.refuses(codes, ("dead", 1, (0, 1, 2, 3, 4)))
        quiet = self.codes(*rows, handlers=((2, 5, "@h", 0),))
        self.gives(quiet, ("dead", 1, (0, 1, 2, 3, 4)), *rows[:4])
        self.gives(quiet, ("dead", 1, tuple(range(8))), *rows[:-3], handlers=((2, 5, "@h", 0),))
        # Only the first handler counts; one whose range becomes empty is left out.
        two = self.codes(*rows, handlers=((2, 3, "@h", 0), (1, 2, "@h", 0), (1, 5, 9, 0), (8, 9, 9, 0)))
        self.gives(two, ("dead", 1, tuple(range(8)) + (9, 10)), *rows[:-3], PUSH_NONE, RETURN,
                   handlers=((2, 3, "@h", 0), (1, 2, "@h", 0), (1, 5, 8, 0)))
        self.gives(two, ("dead", 1, tuple(range(8))), *rows[:-3], handlers=((2, 3, "@h", 0), (1, 2, "@h", 0)))

    def test_starts_and_ends_count_the_live_ones_below(self):
        rows = (("jump", "@a"), ("line", 9), ("line", 9), "a", get("x"), POP, ("jump", "@b"), ("line", 9), "b", *END, ("line", 9),
                "h", ("cut", 0), *END)
        handlers = ((2, 6, "@h", 0), (3, 8, "@h", 0), (1, 3, "@h", 0), (7, 8, "@h", 0))
        live = (0, 1, 4, 5, 6, 8, 9, 11, 12, 13)
        self.gives(self.codes(*rows, handlers=handlers), ("dead", 1, live), ("jump", "@a"), "a", get("x"), POP, ("jump", "@b"),
                   "b", *END, "h", ("cut", 0), *END, handlers=((2, 4, "@h", 0), (2, 5, "@h", 0), (1, 2, "@h", 0)))

    def test_what_would_come_next_is_not_there(self):
        codes = self.codes(PUSH_NONE, ("jump_true", "@a"), *END, ("line", 9), "a", ("line", 1), *END, POP)
        self.gives(codes, ("dead", 1, (0, 1, 2, 3, 4, 6, 7, 8)), PUSH_NONE, ("jump_true", "@a"), *END, "a", ("line", 1), *END)
        self.refuses(codes, ("dead", 1, (0, 1, 2, 3, 4, 6, 7, 8, 9)))


class TestCopies(PaperCase):

    def test_a_load_behind_a_store(self):
        codes = self.codes(ONE, ("store", 1), ("load", 1), POP, *END)
        self.gives(codes, ("copies", 1, 2, 3), ONE, ("copy",), ("store", 1), POP, *END)
        for rows in ((ONE, ("store", 1), ("load", 0)), (ONE, ("store", 1), get("b")), (("load", 1), ("load", 1), POP),
                     (ONE, ("store_global", "b"), get("b")), (ONE, ("store", 1), ("line", 2), ("load", 1))):
            self.refuses(self.codes(*rows, POP, *END), ("copies", 1, 2, 3))
            self.refuses(self.codes(*rows, POP, *END), ("copies", 1, 1, 2))
        codes = self.codes(ONE, ("jump_true", "@m"), ONE, ("store", 1), "m", ("load", 1), POP, *END)
        self.refuses(codes, ("copies", 1, 4, 5))
        rows = (ONE, "s", ("store", 1), "m", ("load", 1), "e", POP, *END, "h", ("cut", 0), *END)
        self.refuses(self.codes(*rows, handlers=(("@m", "@e", "@h", 0),)), ("copies", 1, 2, 3))
        self.refuses(self.codes(*rows, handlers=(("@s", "@m", "@h", 0),)), ("copies", 1, 2, 3))
        self.gives(self.codes(*rows, handlers=(("@s", "@e", "@h", 0),)), ("copies", 1, 2, 3), ONE, "s", ("copy",), ("store", 1),
                   "e", POP, *END, "h", ("cut", 0), *END, handlers=(("@s", "@e", "@h", 0),))
        codes = self.codes(ONE, ("jump_true", "@s"), ("line", 1), "s", ONE, ("store", 1), ("load", 1), POP, *END)
        self.gives(codes, ("copies", 1, 5, 6), ONE, ("jump_true", "@s"), ("line", 1), "s", ONE, ("copy",), ("store", 1), POP, *END)

    def rows_with(self, *between, target=None, last=("load", 1)):
        return [("load", 0), ("store", 1)] + list(between) + [last, ("cut", 0)] + list(END)

    def test_a_load_further_behind(self):
        for between in ((("line", 2),), (ONE, ("store", 2)), (("load", 0), ("load", 1)), (get("f"), CALL), (("delete", 2),),
                        (get("x"), keep("b"), ("load", 2), ("make_list", 1), ("line", 4)), (ONE, POP)):
            codes = self.codes(*self.rows_with(*between))
            other = len(between) + 3
            self.gives(codes, ("copies", 1, 1, other), *self.rows_with(*between, last=("load", 0)))
        # Another one behind the first one counts as well.
        codes = self.codes(*self.rows_with(("load", 1)))
        self.gives(codes, ("copies", 1, 1, 4), *self.rows_with(("load", 1), last=("load", 0)))
        self.gives(codes, ("copies", 1, 1, 3), *self.rows_with(("load", 0)))

    def test_what_must_not_stand_between(self):
        for between in ((ONE, ("store", 0)), (ONE, ("store", 1)), (("delete", 0),), (("delete", 1),), (("jump", 4),),
                        (ONE, ("jump_true", 5)), (ONE, ("jump_false", 5)), (ONE, ("yield",), POP), (("leave", 0, 0), ("end_finally", -1, -1, -1)),
                        (ONE, ("leave", 1, 0), ONE, ("end_with", -1, -1, -1))):
            codes = self.codes(*self.rows_with(*between), yields=True)
            self.refuses(codes, ("copies", 1, 1, len(between) + 3))

    def test_ends_between(self):
        # No way leads from the one to the other, but it is asked all the same.
        for row in (("return",), ("raise", 1), ("raise", 0), ("again",)):
            codes = self.codes(*END, *self.rows_with(ONE, row))
            self.refuses(codes, ("copies", 1, 3, 7))
        for row in (("fetch", 7), ("keep_true", 7), ("guard", 0, 0, 7), ("end_with", -1, -1, -1)):
            codes = self.codes(*END, *self.rows_with(row))
            self.refuses(codes, ("copies", 1, 3, 6))
        self.gives(self.codes(*END, *self.rows_with(POP)), ("copies", 1, 3, 6), *END, *self.rows_with(POP, last=("load", 0)))

    def test_inlined_functions_between(self):
        inner = unit("g", LINE, *END, parameters=(), slots=("p",))
        between = (get("g"), ("enter_inline", 2, 3), ("line", 5), ONE, ("leave_inline", 2, 3))
        codes = self.codes(*self.rows_with(*between), units=[inner], extra=1)
        self.refuses(codes, ("copies", 1, 1, 8))
        between = (get("g"), ("enter_inline", 2, 3), ONE, ("store", 3), ("load", 3), ("leave_inline", 2, 3))
        codes = self.codes(*between, POP, *END, units=[inner], extra=1)
        self.gives(codes, ("copies", 1, 4, 5), *between[:3], ("copy",), ("store", 3), between[5], POP, *END)

    def test_targets(self):
        # Each place: before the load, at it, at the store, between, at the second load, behind it.
        places = {"before": 3, "first": 4, "store": 5, "between": 6, "last": 7, "behind": 8}
        for label, at in places.items():
            rows = ("before", ("line", 3), "first", ("load", 0), "store", ("store", 1), "between", ("line", 2), "last", ("load", 1),
                    "behind", POP, *END)
            codes = self.codes(("jump", "@before"), ("jump", "@" + label), *rows)
            paper = ("copies", 1, 4, 7)
            if label in ("store", "between", "last"):
                self.refuses(codes, paper)
            else:
                changed = tuple(("load", 0) if row == ("load", 1) else row for row in rows)
                self.gives(codes, paper, ("jump", "@before"), ("jump", "@" + label), *changed)
            # The target of a handler, whose range does not matter.
            rows = rows[:-2] + END
            codes = self.codes(*rows, handlers=((1, 2, "@" + label, 9), (1, 2, "@first", 3)))
            if label not in ("before",):
                paper = ("copies", 1, 2, 5)
                if label in ("store", "between", "last"):
                    self.refuses(codes, paper)
                else:
                    changed = tuple(("load", 0) if row == ("load", 1) else row for row in rows)
                    self.gives(codes, paper, *changed, handlers=((1, 2, "@" + label, 9), (1, 2, "@first", 3)))
        codes = self.codes(*self.rows_with(("line", 2)), handlers=((2, 3, 6, 9), (3, 4, 5, 9)))
        self.gives(codes, ("copies", 1, 1, 4), *self.rows_with(("line", 2), last=("load", 0)), handlers=((2, 3, 6, 9), (3, 4, 5, 9)))

    def test_other_instructions(self):
        good = (("load", 0), ("store", 1), ("line", 2), ("load", 1))
        for at, row in ((0, ("load", 1)), (0, get("a")), (1, ("store", 0)), (1, keep("b")), (3, ("load", 0)), (3, ("load", 2)),
                        (3, get("b")), (0, ONE)):
            rows = list(good)
            rows[at] = row
            self.refuses(self.codes(*rows, POP, *END), ("copies", 1, 1, 4))
        self.refuses(self.codes(*good, POP, *END), ("copies", 1, 1, 3))
        self.refuses(self.codes(*good, POP, *END), ("copies", 1, 1, 5))
        self.refuses(self.codes(*good, POP, *END), ("copies", 1, 4, 1))
        self.refuses(self.codes(("load", 1), ("load", 0), ("store", 1), POP, *END), ("copies", 1, 2, 1))


class TestTidy(PaperCase):

    def test_each_form(self):
        self.gives(self.codes(ONE, POP, *END), ("tidy", 1, 1), *END)
        self.gives(self.codes(ONE, ("copy",), POP, POP, *END), ("tidy", 1, 2), ONE, POP, *END)
        self.gives(self.codes(ONE, TWO, ("swap",), ("swap",), POP, POP, *END), ("tidy", 1, 3), ONE, TWO, POP, POP, *END)
        self.gives(self.codes(("jump", 2), *END), ("tidy", 1, 1), *END)
        self.gives(self.codes(ONE, NOT, ("jump_true", "@d"), ("line", 1), "d", *END), ("tidy", 1, 2),
                   ONE, ("jump_false", "@d"), ("line", 1), "d", *END)
        self.gives(self.codes(ONE, NOT, ("jump_false", "@d"), ("line", 1), "d", *END), ("tidy", 1, 2),
                   ONE, ("jump_true", "@d"), ("line", 1), "d", *END)
        self.gives(self.codes("d", ("line", 1), ONE, NOT, ("jump_false", "@d"), *END), ("tidy", 1, 3),
                   "d", ("line", 1), ONE, ("jump_true", "@d"), *END)

    def test_others(self):
        for rows in ((("load", 0), POP), (get("x"), POP), (ONE, ("line", 2), POP), (("make_list", 0), POP), (POP, ONE),
                     (ONE, ("copy",)), (("unary", "-"), ("jump_true", "@d")), (NOT, ("keep_true", "@d")), (NOT, ("line", 1)),
                     (("swap",), ("copy",)), (("lift",), ("lift",)), (("push_cell", 0), POP)):
            codes = self.codes(ONE, ONE, ONE, ONE, *rows, ("cut", 0), *END, "d", ("cut", 0), *END, cells=("a",))
            self.refuses(codes, ("tidy", 1, 5))
        codes = self.codes(("jump", 3), ("line", 2), *END)
        for at in range(5):
            self.refuses(codes, ("tidy", 1, at))
        self.refuses(self.codes("s", ("line", 1), ("jump", "@s")), ("tidy", 1, 2))

    def test_targets_between(self):
        self.refuses(self.codes(ONE, ("jump", "@m"), ONE, "m", POP, *END), ("tidy", 1, 3))
        rows = (ONE, TWO, ("swap",), "m", ("swap",), POP, POP, *END, "h", ("cut", 0), *END)
        self.refuses(self.codes(*rows, handlers=((1, "@m", "@h", 0),)), ("tidy", 1, 3))
        # A jump alone has nothing between; what aims at it aims at the next one.
        codes = self.codes(("line", 1), ONE, ("jump_true", "@m"), "m", ("jump", "@n"), "n", *END)
        self.gives(codes, ("tidy", 1, 4), ("line", 1), ONE, ("jump_true", "@m"), "m", *END)


class TestInline(PaperCase):

    def setUp(self):
        self.callee = unit("g", ("line", 5), ("load", 0), ("load", 1), ("binary", "+"), ("store", 2), ("load", 2), RETURN,
                           parameters=("p", "q"), slots=("p", "q", "r"))
        self.rows = [get("g"), ONE, TWO, ("call", 2, ()), keep("x")]

    def calling(self, *rows, callee=None, **fields):
        return self.codes(*(rows or self.rows), *END, units=[callee or self.callee], **fields)

    def test_the_code_that_results(self):
        # Three slots of its own and four further ones: B is 7.
        codes = self.calling(extra=4)
        self.gives(codes, ("inline", 1, 4, 2), get("g"), ONE, TWO, ("guard", 2, 2, "@slow"), ("enter_inline", 2, 7), ("line", 5),
                   ("load", 7), ("load", 8), ("binary", "+"), ("store", 9), ("load", 9), ("leave_inline", 2, 7), ("jump", "@end"),
                   "slow", ("call", 2, ()), "end", keep("x"), *END, extra=7)

    def test_targets_in_the_callee(self):
        callee = unit("g", "top", ("line", 5), ("load", 0), ("jump_true", "@b"), PUSH_NONE, RETURN, "b", ("line", 6), ("load", 0),
                      ("keep_false", "@c"), ("push", TRUE), ("jump_false", "@top"), ("load", 0), "c", RETURN,
                      parameters=("p",))
        rows = [get("g"), ONE, ("call", 1, ()), POP]
        self.gives(self.calling(*rows, callee=callee), ("inline", 1, 3, 2), get("g"), ONE, ("guard", 2, 1, "@slow"),
                   ("enter_inline", 2, 3), "top", ("line", 5), ("load", 3), ("jump_true", "@b"), PUSH_NONE, ("leave_inline", 2, 3),
                   ("jump", "@end"), "b", ("line", 6), ("load", 3), ("keep_false", "@c"), ("push", TRUE), ("jump_false", "@top"),
                   ("load", 3), "c", ("leave_inline", 2, 3), ("jump", "@end"), "slow", ("call", 1, ()), "end", POP, *END, extra=1)

    def test_targets_and_handlers_around_it(self):
        callee = unit("g", LINE, ONE, RETURN)
        rows = ["a", ("line", 1), get("g"), "c", CALL, "d", ("jump_true", "@a"), ("jump", "@e"), ("line", 2), "e", *END, "h",
                ("cut", 0)]
        handlers = (("@c", "@d", "@h", 0), ("@a", "@c", "@h", 0), ("@d", "@e", "@h", 0))
        body = [("guard", 2, 0, "@slow"), ("enter_inline", 2, 3), LINE, ONE, ("leave_inline", 2, 3), ("jump", "@d"), "slow", CALL]
        self.gives(self.calling(*rows, callee=callee, handlers=handlers), ("inline", 1, 3, 2), *rows[:4], *body, *rows[5:], *END,
                   handlers=handlers, extra=0)

    def test_a_call_that_is_aimed_at(self):
        callee = unit("g", LINE, ONE, RETURN)
        rows = [get("g"), ONE, ("jump_true", "@c"), ("line", 2), "c", CALL, POP]
        body = [("guard", 2, 0, "@slow"), ("enter_inline", 2, 3), LINE, ONE, ("leave_inline", 2, 3), ("jump", "@d"), "slow", CALL]
        self.gives(self.calling(*rows, callee=callee), ("inline", 1, 5, 2), *rows[:5], *body, "d", POP, *END, extra=0)
        # But not by a guard: the call is then that behind an inlined function.
        rows = [get("g"), ("guard", 0, 0, "@c"), ("line", 2), "c", CALL, POP]
        self.refuses(self.calling(*rows, callee=callee), ("inline", 1, 4, 2))
        rows = [("jump", "@s"), ("guard", 0, 0, "@c"), "s", get("g"), "c", CALL, POP]
        self.refuses(self.calling(*rows, callee=callee), ("inline", 1, 4, 2))

    def test_inlining_twice(self):
        callee = unit("g", LINE, ("load", 0), RETURN, parameters=("p",))
        rows = [get("g"), ONE, ("call", 1, ()), POP, get("g"), TWO, ("call", 1, ()), POP]
        codes = apply_paper(self.calling(*rows, callee=callee), ("inline", 1, 7, 2))
        again = apply_paper(codes, ("inline", 1, 3, 2))
        self.same(again.codes[1].extra, 2)
        self.same([row for row in again.codes[1].instructions if row[0] == "enter_inline"],
                  [("enter_inline", 2, 4), ("enter_inline", 2, 3)])
        for code in (codes, again):
            slow = [at for at, row in enumerate(code.codes[1].instructions) if row[0] == "call"][-1]
            self.refuses(code, ("inline", 1, slow, 2))

    def test_conditions_on_the_call(self):
        for at in range(8):
            if at != 4:
                self.refuses(self.calling(), ("inline", 1, at, 2))
        for call in (("call", 1, ("q",)), ("call", 1, ()), ("call", 3, ())):
            rows = [get("g"), ONE, ONE, ONE, call, ("cut", 0)]
            self.refuses(self.calling(*rows), ("inline", 1, 5, 2))
        self.refuses(self.codes(*END, *self.rows, *END, units=[self.callee]), ("inline", 1, 6, 2))
        # Another unit, or the unit itself, that has other parameters or instructions.
        self.refuses(self.calling(), ("inline", 1, 4, 0))
        self.refuses(self.calling(), ("inline", 1, 4, 1))

    def test_conditions_on_the_callee(self):
        rows = [get("g"), CALL, POP]

        def check(good, *body, **fields):
            codes = self.calling(*rows, callee=unit("g", LINE, *body, **fields))
            if good:
                check_code(apply_paper(codes, ("inline", 1, 2, 2)))
            else:
                self.refuses(codes, ("inline", 1, 2, 2))
        check(True, ONE, RETURN)
        check(True, ONE, RETURN, slots=("p", "q"))
        check(False, ONE, RETURN, parameters=("p",))
        check(False, ONE, RETURN, slots=("p",), cells=("p",))
        check(False, ONE, RETURN, free=("p",))
        check(False, ONE, RETURN, yields=True)
        check(False, ONE, RETURN, extra=1)
        check(False, ONE, RETURN, handlers=((1, 2, 2, 0),))
        check(True, *[("line", 2)] * 21, ONE, RETURN)
        check(False, *[("line", 2)] * 22, ONE, RETURN)
        allowed = ((get("x"),), (ONE, ("copy",), ("make_tuple", 2)), (ONE, ("copy",), ("make_list", 2)),
                   (ONE, ONE, ("copy_two",), POP, POP, ("make_dict", 1)), (ONE, ONE, ("swap",), ("load_item",)),
                   (ONE, ONE, ONE, ONE, ("lift",), ("load_slice",)),
                   (ONE, ("load_field", "x")), (ONE, NOT), (ONE, ONE, ("binary", "+")), (ONE, ONE, ("compare", "is")),
                   (ONE, ("store", 0), ("load", 0), ("delete", 0)), (ONE, ("keep_true", 4), ONE), (ONE, ("jump_true", 3), ONE),
                   (ONE, ("keep_false", 4), ONE), (ONE, ("jump_false", 3), ONE), (("jump", 2), ONE), (ONE, RETURN, POP, ONE))
        for part in allowed:
            check(True, *part, RETURN, slots=("p",))
        for part in ((("raise", 0), ONE), (ONE, keep("x"), ONE), (("delete_global", "x"), ONE), (get("x"), CALL),
                     (("make_function", 0),), (PUSH_NONE, ("make_class", "A", ())), (ONE, ("unpack", 1)), (ONE, ONE, ("store_field", "x"), ONE),
                     (ONE, ("delete_field", "x"), ONE), (ONE, ONE, ONE, ("store_item",), ONE), (ONE, ONE, ("delete_item",), ONE),
                     (("make_list", 0), ("copy",), ONE, ("append_item",)), (ONE, ("get_iterator",), POP, ONE), (ONE, ("cut", 0), ONE),
                     (("leave", 0, 0), POP, ONE), (ONE, ("enter_with",), POP), (ONE, RETURN, ("yield",)), (ONE, RETURN, ("hold",)),
                     (ONE, RETURN, ("match",)), (ONE, RETURN, ("again",)), (ONE, RETURN, ("end_finally", -1, -1, -1)),
                     (ONE, RETURN, ("guard", 0, 0, 0))):
            check(False, *part, RETURN)

    def test_a_callee_that_leaves_something_on_the_stack(self):
        # Its frame would drop it, but an inlined function has none: the checker refuses.
        codes = self.calling(get("g"), CALL, POP, callee=unit("g", LINE, ONE, TWO, RETURN))
        self.refuses(codes, ("inline", 1, 2, 2))

    def test_too_many_further_slots(self):
        callee = unit("g", LINE, ONE, RETURN, slots=("p", "q"))
        for extra, good in ((9998, True), (9999, False)):
            codes = self.calling(get("g"), CALL, POP, callee=callee, extra=extra)
            if good:
                self.same(apply_paper(codes, ("inline", 1, 2, 2)).codes[1].extra, 10000)
            else:
                self.refuses(codes, ("inline", 1, 2, 2))

    def test_under_an_inlined_function(self):
        # A call does not occur there; where no way leads it has no state.
        callee = unit("g", LINE, ONE, RETURN)
        rows = [get("g"), ("enter_inline", 2, 3), ONE, ("leave_inline", 2, 3), POP, *END, get("g"), CALL, POP]
        codes = self.calling(*rows, callee=callee)
        self.refuses(codes, ("inline", 1, 9, 2))


class TestInlinedRuns(MachineCase):
    """Runs with inlined calls beside those without."""

    def both(self, source, callee, wanted_guards=1, **options):
        """Inline all calls of a unit; return the inlined run behind comparing it with the other one."""
        codes = compiled_text(source)
        changed = codes
        for number_of_unit in range(len(codes)):
            at = 0
            while at < len(changed.codes[number_of_unit]):
                before = len(changed.codes[number_of_unit])
                try:
                    changed = apply_paper(changed, ("inline", number_of_unit, at, callee))
                except BadPaper:
                    pass
                at += 1 + len(changed.codes[number_of_unit]) - before
        guards = [row for code in changed.codes for row in code.instructions if row[0] == "guard"]
        # Calls of other values with as many arguments have one too, which fails.
        self.assertGreaterEqual(len(guards), wanted_guards)
        run = Machine(changed, **options)
        self.compare(Machine(codes, **options), run)
        return run

    ADD = "def f(a, b):\n    c = a + b\n    return c\n"

    def test_values_and_errors(self):
        self.both(self.ADD + "print(f(1, 2), f(\"a\", \"b\"))\nf(1, \"a\")", 1, 3)
        self.both(self.ADD + "try:\n    f(1, [])\nexcept Error as e:\n    print(e)\n    f(e, 2)", 1, 2)
        self.both("def f(a):\n    if a:\n        c = 1\n    return c\nprint(f(1))\nf(0)", 1, 2)
        self.both("def f():\n    return x\nf()", 1)

    def test_names_that_are_bound_anew(self):
        self.both(self.ADD + "f = max\nprint(f(1, 2))", 1)
        self.both(self.ADD + "g = f\nf = lambda a, b: 5\nprint(f(1, 2), g(1, 2))", 1, 2)
        self.both(self.ADD + "def h():\n    global f\n    f = None\n    return 2\nprint(f(1, h()))\nf(1, 2)", 1, 2)
        self.both(self.ADD + "class f:\n    def init(self, a, b):\n        print(a, b)\nf(1, 2)", 1)
        self.both(self.ADD + "del f\nf(1, 2)", 1)
        self.both(self.ADD + "x = 5\nx(1, 2)", 1)

    def test_depth_room_and_fuel(self):
        source = self.ADD + "def g(n):\n    return f([n], [n]) + g(n - 1) if n else []\nprint(g(5))"
        for depth in range(1, 9):
            self.both(source, 1, 1, depth=depth)
        for room in range(0, 40, 3):
            self.both(source, 1, 1, room=room)
        for fuel in range(0, 30):
            self.both(source, 1, 1, fuel=fuel)

    def test_trace_and_causes(self):
        source = "def f(a):\n    return a // 0\ndef g(a):\n    try:\n        f(a)\n    finally:\n        f(\"x\")\ng(1)"
        run = self.both(source, 1, 2)
        self.same(run.end[1], (("KindError", "", (("main", 8), ("g", 7), ("f", 2))),
                               ("ZeroError", "", (("main", 8), ("g", 5), ("f", 2)))))

    def test_in_loops_and_generators(self):
        self.both(self.ADD + "def g(n):\n    for x in range(n):\n        yield f(x, [x])if x == 3 else f(x, x)\n"
                  "try:\n    for y in g(5):\n        print(f(y, y), [f(z, z) for z in range(2)])\nexcept Error as e:\n    print(e)", 1, 4)


class TestRandomPapers(MachineCase):
    """Papers drawn for codes written by hand: the runs stay the same."""

    def test_drawn_papers(self):
        applied = {}
        for seed in range(40):
            rng = random.Random(seed)
            codes = random_codes(rng, compile_program(random_program(rng)), 25)
            changed = codes
            for _ in range(5):
                papers = all_papers(rng, changed)
                if not papers:
                    break
                word = rng.choice(sorted({paper[0] for paper in papers}))
                paper = rng.choice([paper for paper in papers if paper[0] == word])
                try:
                    changed = apply_paper(changed, paper)
                    applied[word] = applied.get(word, 0) + 1
                except BadPaper:
                    # The conditions hold, so the checker has refused: only these three may lose their targets or states.
                    self.assertIn(word, ("inline", "dead", "tidy"))
            options = {"room": rng.choice([10000, 200]), "fuel": rng.choice([300, 60]), "depth": rng.choice([24, 4])}
            schedule = rng.choice([(), (1,), (2, 0), (0, 1, 2)])
            with self.subTest(seed=seed):
                self.compare(Machine(codes, **options), Machine(changed, schedule=schedule, **options))
        for word in ("fold", "branch", "thread", "dead", "copies", "tidy", "inline"):
            self.assertGreater(applied.get(word, 0), 4, word)


if __name__ == "__main__":
    unittest.main()
