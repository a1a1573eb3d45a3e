"""Random codes that are made by walks which know what stands on the stack; most of them are accepted.

Letters stand for kinds as in tests.second_checker; a pending entry is the frozenset of its reasons.
"""

from likerun.checker import check_unit
from likerun.code import Code, Compiled
from likerun.errors import BadCode
from tests.codes import PLAIN

GLOBALS = ("a", "b", "c", "f", "g")
FIELDS = ("x", "y", "send", "close", "append", "message", "cause", "enter", "leave", "init")
VALUES = PLAIN + (("builtin", "print"), ("builtin", "next"), ("builtin", "iter"), ("errorclass", "Error"),
                  ("errorclass", "StopError"), ("errorclass", "CloseError"))
# Word, operands to choose from, what stands on top, how much of it is taken, what is put, whether it may be inlined, weight.
ROWS = [
    ("pop", (), "?", 1, "", True, 2), ("copy", (), "v", 0, "v", True, 2), ("copy_two", (), "vv", 0, "vv", True, 1),
    ("swap", (), "vv", 0, "", True, 2), ("lift", (), "vvv", 0, "", True, 2), ("unary", ("-", "not", "not"), "v", 1, "v", True, 2),
    ("binary", ("+", "*", "-"), "vv", 2, "v", True, 2), ("compare", ("==", "is", "in", "<"), "vv", 2, "v", True, 2),
    ("store_global", GLOBALS, "v", 1, "", True, 2), ("load_global", GLOBALS + ("Error", "len"), "", 0, "v", True, 4),
    ("delete_global", GLOBALS, "", 0, "", True, 1), ("load_field", FIELDS, "v", 1, "v", True, 2),
    ("store_field", FIELDS, "vv", 2, "", True, 1), ("delete_field", FIELDS, "v", 1, "", True, 1), ("load_item", (), "vv", 2, "v", True, 1),
    ("store_item", (), "vvv", 3, "", True, 1), ("delete_item", (), "vv", 2, "", True, 1), ("load_slice", (), "vvvv", 4, "v", True, 1),
    ("make_tuple", (2,), "vv", 2, "v", True, 1), ("make_list", (1,), "v", 1, "v", True, 1), ("make_dict", (1,), "vv", 2, "v", True, 1),
    ("append_item", (), "vv", 2, "", True, 1), ("unpack", (2,), "v", 1, "vv", True, 1), ("get_iterator", (), "v", 1, "i", False, 3),
    ("enter_with", (), "v", 0, "v", False, 1), ("load_handled", (), "h", 0, "v", True, 3), ("drop_handled", (), "h", 1, "", True, 2),
    ("match", (), "hv", 1, "v", True, 3), ("call_leave", (), "vp", 0, "v", False, 4)]


class Walk:
    """Makes the rows of one unit."""

    def __init__(self, rng, number, units):
        self.rng = rng
        self.units = units
        self.number = number
        self.unit = units[number]
        self.rows = [("line", self.unit["line"])]
        self.kinds = ()
        self.inlined = None
        # Whether a way leads to the next row; the places of operands that wait for a target with a state; the lines.
        self.live = True
        self.waiting = []
        self.lines = [(0, ((), None))]

    def state(self):
        return self.kinds, self.inlined

    def fits(self, letters):
        if len(self.kinds) < len(letters):
            return False
        top = self.kinds[len(self.kinds) - len(letters):]
        return all(isinstance(kind, frozenset) if letter == "p" else letter in ("?", kind) for kind, letter in zip(top, letters))

    def emit(self, row, taken=0, put=()):
        self.rows.append(row)
        self.kinds = self.kinds[:len(self.kinds) - taken] + tuple(put)

    def aim(self, operand, state):
        """Return a target with this state: a line before, or one that is told later."""
        known = [at for at, other in self.lines if other == state]
        if known and self.rng.random() < 0.2:
            return self.rng.choice(known)
        self.waiting.append((len(self.rows), operand, state))
        return None

    def settle(self, wait):
        at, operand, _ = wait
        row = list(self.rows[at])
        row[operand] = len(self.rows)
        self.rows[at] = tuple(row)
        self.waiting.remove(wait)

    def choices(self):
        """Return what may come next, each as a function."""
        found = [self.push, self.push, self.push, self.line, self.line]
        for word, operands, letters, taken, put, inner, weight in ROWS:
            if self.fits(letters) and (inner or self.inlined is None):
                found += [lambda row=(word, operands, taken, put): self.plain(*row)] * weight
        for letters, action, weight in (("v", self.jump_if, 2), ("v", self.keep_if, 2), ("i", self.fetch, 6), ("h", self.hold, 2),
                                        ("p", self.end_finally, 3), ("vpv", self.end_with, 6), ("", self.leave, 1), ("", self.cut, 1)):
            if self.fits(letters) and (self.inlined is None or action != self.fetch):
                found += [action] * weight
        if self.inlined is None:
            found += self.outer_choices()
        elif self.fits("v"):
            found += [self.leave_inline] * 4
        first, many = (0, len(self.unit["slots"])) if self.inlined is None else (
            self.inlined[1], len(self.units[self.inlined[0]]["slots"]))
        if many:
            found += [lambda: self.slot(first, many)] * 4
        return found

    def outer_choices(self):
        found = [self.function] * 4
        if self.fits("v"):
            found += [self.call] * 4 + [self.end] + [self.guard] * 2 + [self.enter_inline] * 4
            found += [lambda: self.emit(("make_class", "A", ()))]
            if self.unit["yields"]:
                found += [lambda: self.emit(("yield",))] * 4
        if self.unit["cells"] + self.unit["free"]:
            found += [self.cell] * 4
        return found

    def push(self):
        self.emit(("push", self.rng.choice(VALUES)), put="v")

    def line(self):
        self.lines.append((len(self.rows), self.state()))
        self.emit(("line", self.rng.randrange(9)))

    def plain(self, word, operands, taken, put):
        self.emit((word,) + ((self.rng.choice(operands),) if operands else ()), taken, put)

    def jump_if(self):
        row = (self.rng.choice(["jump_true", "jump_false"]), self.aim(1, (self.kinds[:-1], self.inlined)))
        self.emit(row, 1)

    def keep_if(self):
        self.emit((self.rng.choice(["keep_true", "keep_false"]), self.aim(1, self.state())), 1)

    def fetch(self):
        self.emit(("fetch", self.aim(1, (self.kinds[:-1], self.inlined))), 0, "v")

    def hold(self):
        self.emit(("hold",), 1, [frozenset([4])])

    def leave(self):
        reason = self.rng.randrange(4) if self.fits("v") else self.rng.choice([0, 2, 3])
        depth = self.rng.randrange(len(self.kinds) + (0 if reason == 1 else 1))
        self.emit(("leave", depth, reason), len(self.kinds) - depth, [frozenset([reason])])

    def cut(self):
        depth = self.rng.randrange(len(self.kinds) + 1)
        self.emit(("cut", depth), len(self.kinds) - depth)

    def end_finally(self):
        self.part("end_finally", self.kinds[-1], 1)

    def end_with(self):
        self.part("end_with", self.kinds[-2], 3)

    def part(self, word, reasons, taken):
        base = self.kinds[:len(self.kinds) - taken]
        row = [word, -1, -1, -1]
        for reason in (1, 2, 3):
            if reason in reasons:
                self.waiting.append((len(self.rows), reason, (base + ("v",) if reason == 1 else base, self.inlined)))
                row[reason] = None
        self.emit(tuple(row), taken)
        self.live = 0 in reasons or word == "end_with" and 4 in reasons

    def slot(self, first, many):
        word = self.rng.choice(["load", "load", "delete"] + ["store"] * 3 * self.fits("v"))
        self.emit((word, first + self.rng.randrange(many)), word == "store", "v" * (word == "load"))

    def cell(self):
        word = self.rng.choice(["load_cell", "load_cell", "delete_cell", "push_cell"] + ["store_cell"] * 4 * self.fits("v"))
        at = self.rng.randrange(len(self.unit["cells"] + self.unit["free"]))
        self.emit((word, at), word == "store_cell", {"load_cell": "v", "push_cell": "c"}.get(word, ""))

    def function(self):
        number = self.rng.randrange(len(self.units))
        other = self.units[number]
        many = len(self.unit["cells"] + self.unit["free"])
        if other["free"] and not many:
            return
        for _ in range(other["defaults"]):
            self.push()
        for _ in other["free"]:
            self.emit(("push_cell", self.rng.randrange(many)), 0, "c")
        self.emit(("make_function", number), other["defaults"] + len(other["free"]), "v")

    def call(self):
        many, names = self.rng.choice([(0, ()), (0, ()), (1, ()), (1, ()), (2, ()), (0, ("p",)), (1, ("q",))])
        if self.fits("v" * (1 + many + len(names))):
            self.emit(("call", many, names), 1 + many + len(names), "v")

    def simple(self):
        """Return the number of a unit that may be inlined, and of its parameters, if they stand on the stack."""
        number = self.rng.randrange(len(self.units))
        other = self.units[number]
        many = len(other["parameters"])
        good = not other["cells"] + other["free"] and not other["yields"] and self.fits("v" * (1 + many))
        return (number, many) if good else None

    def guard(self):
        told = self.simple()
        if told:
            self.emit(("guard",) + told + (self.aim(3, self.state()),))

    def enter_inline(self):
        told = self.simple()
        if told and len(self.units[told[0]]["slots"]) <= self.unit["extra"]:
            room = self.unit["extra"] - len(self.units[told[0]]["slots"])
            place = (told[0], len(self.unit["slots"]) + self.rng.randrange(room + 1))
            self.emit(("enter_inline",) + place, 1 + told[1])
            self.inlined = place

    def leave_inline(self):
        self.emit(("leave_inline",) + self.inlined)
        self.inlined = None

    def end(self):
        self.live = self.rng.random() < 0.7
        if not self.live:
            row = self.rng.choice([("return",), ("raise", 1), ("raise", 0), ("jump",)])
            self.emit(row + ((self.aim(1, self.state()),) if row == ("jump",) else ()))

    def revive(self):
        """Go on at a target that is not yet told."""
        if not self.waiting:
            return False
        self.kinds, self.inlined = self.rng.choice(self.waiting)[2]
        for wait in [wait for wait in self.waiting if wait[2] == self.state()]:
            self.settle(wait)
        self.live = True
        return True

    def make(self, many):
        for _ in range(many):
            if not self.live and not self.revive():
                break
            for wait in [wait for wait in self.waiting if wait[2] == self.state() and self.rng.random() < 0.5]:
                self.settle(wait)
            if len(self.kinds) > 7:
                self.cut()
            self.rng.choice(self.choices())()
        while self.live or self.revive():
            self.emit(("push", ("none",)), put="v")
            if self.inlined is not None:
                self.leave_inline()
            self.emit(("return",))
            self.live = False
        return self.rows

    def begin(self):
        """Bind the global names, and go on at another line in each of the first rounds of a loop."""
        for name, row in (("a", ("make_list", 0)), ("b", ("push", ("text", "ab"))), ("c", ("push", ("number", 3))), ("n", ("push", ("number", 0)))):
            self.rows += [row, ("store_global", name)]
        for name in "fg":
            number = self.rng.choice([at for at, unit in enumerate(self.units) if not unit["free"]])
            self.rows += [("push", ("number", 1))] * self.units[number]["defaults"] + [("make_function", number), ("store_global", name)]
        self.lines.append((len(self.rows), self.state()))
        self.rows += [("line", 50), ("load_global", "n"), ("push", ("number", 1)), ("binary", "+"), ("store_global", "n")]
        for at in range(12):
            self.rows += [("load_global", "n"), ("push", ("number", at + 2)), ("compare", "=="), ("jump_true", None)]

    def end_begin(self):
        """Tell the targets of the jumps at the beginning, and let all errors lead to the loop; return the handlers."""
        start = self.rows.index(("line", 50))
        behind = max(at for at, row in enumerate(self.rows) if row == ("jump_true", None)) + 1
        known = [at for at, state in self.lines if state == ((), None) and at >= behind] + [behind]
        self.rows = [("jump_true", self.rng.choice(known)) if row == ("jump_true", None) else row for row in self.rows]
        many = len(self.rows)
        self.rows += [("drop_handled",), ("jump", start)]
        return ((start + 1, many, many, 0),)


def random_units(rng):
    """Return the fields of units but for their instructions."""
    units = [{"name": "main", "line": 0, "parameters": (), "slots": (), "cells": (), "free": (), "yields": False, "defaults": 0,
              "extra": rng.choice([0, 4, 6])}]
    for number in range(1, rng.randrange(2, 6)):
        slots = ("p", "q", "r")[:rng.randrange(4)]
        parameters = slots[:rng.randrange(len(slots) + 1)]
        simple = rng.random() < 0.5
        units.append({
            "name": rng.choice("fgh"), "line": number, "parameters": parameters, "slots": slots,
            "cells": () if simple else tuple(name for name in slots if rng.random() < 0.4),
            "free": () if simple or rng.random() < 0.6 else ("z", "w")[:rng.randrange(1, 3)],
            "yields": not simple and rng.random() < 0.6, "defaults": rng.randrange(len(parameters) + 1),
            "extra": rng.choice([0, 0, 3, 5])})
    return units


def walked_codes(rng, many):
    """Return codes of walks, with drawn handlers; the checker may refuse them."""
    units = random_units(rng)
    codes = []
    for number, unit in enumerate(units):
        walk = Walk(rng, number, units)
        handlers = ()
        if number == 0:
            walk.begin()
        walk.make(rng.randrange(5, many))
        if number == 0:
            handlers = walk.end_begin()
        fields = {word: unit[word] for word in unit if word not in ("name", "line")}
        codes.append(Code(unit["name"], unit["line"], tuple(walk.rows), handlers=handlers, **fields))
    for number in range(len(codes)):
        for _ in range(rng.randrange(4)):
            protect(rng, codes, number)
    return Compiled(codes)


def protect(rng, codes, number):
    """Put a handler over some instructions of a unit, if the checker accepts that."""
    code = codes[number]
    many = len(code.instructions)
    start = rng.randrange(many - 1)
    end = rng.randrange(start + 1, min(many, start + 12))
    landing = rng.choice([
        [("load_handled",), ("store_global", "b"), ("drop_handled",)],
        [("push", ("errorclass", rng.choice(["Error", "KindError"]))), ("match",), ("pop",), ("line", 5)],
        [("line", 3), ("again",)], [("hold",), ("line", 4), ("end_finally", -1, -1, -1)]])
    rows = code.instructions + tuple(landing) + (("cut", 0), ("push", ("none",)), ("return",))
    for depth in rng.sample(range(5), 5):
        changed = Code(code.name, code.line, rows, parameters=code.parameters, defaults=code.defaults, slots=code.slots,
                       cells=code.cells, free=code.free, yields=code.yields, extra=code.extra,
                       handlers=((start, end, many, depth),) + code.handlers)
        try:
            check_unit(codes[:number] + [changed] + codes[number + 1:], number)
        except BadCode:
            continue
        codes[number] = changed
        return
