"""The states before the instructions of a code: the kinds on the stack, and the inlined function that is open."""

from likerun.effects import LETTERS, fits_top, row_of
from likerun.errors import BadCode
from likerun.forms import listed
from likerun.words import ENDING, PARTING, QUIET, handler_rows

# What does not occur in an inlined function.
OUTSIDE = {
    "call": True, "return": True, "yield": True, "fetch": True, "get_iterator": True, "enter_with": True,
    "call_leave": True, "guard": True, "enter_inline": True, "make_function": True, "make_class": True, "raise": True,
    "again": True, "load_cell": True, "store_cell": True, "delete_cell": True, "push_cell": True,
}
NAMING = {"load": True, "store": True, "delete": True}
JUMPING = {"jump": True, "jump_true": True, "jump_false": True}
KEEPING = {"keep_true": True, "keep_false": True, "guard": True}


class Shaper:
    """Works out the states of one code; a way that breaks a rule raises BadCode."""

    def __init__(self, codes, number):
        self.codes = codes
        self.number = number
        self.code = codes[number]
        self.states = [None] * len(self.code.instructions)
        self.handlers = handler_rows(self.code)
        # The indexes whose state has changed since they were followed.
        self.rest = []

    def work_out(self):
        """Return the states: for each instruction the kinds and the inlined function, or None if no way leads there."""
        self.meet(0, (), None)
        while self.rest:
            self.follow(self.rest.pop())
        return tuple(self.states)

    def need(self, condition):
        """Refuse the code if a condition does not hold."""
        if not condition:
            raise BadCode(self.number)

    def meet(self, at, kinds, inlined):
        """Note that a way with this state leads to an instruction."""
        self.need(0 <= at < len(self.states))
        known = self.states[at]
        if known is not None:
            kinds = joined_kinds(known[0], kinds)
            self.need(kinds is not None and known[1] == inlined)
            if kinds == known[0]:
                return
        self.states[at] = (kinds, inlined)
        self.rest.append(at)

    def follow(self, at):
        """Note all ways that lead from an instruction."""
        kinds, inlined = self.states[at]
        instruction = self.code.instructions[at]
        word = instruction[0]
        values, row = row_of(self.codes, instruction)
        self.need(fits_top(kinds, values, row[0]))
        self.check_place(instruction, inlined)
        handler = self.handlers[at]
        if handler is not None and word not in QUIET:
            _, _, target, depth = handler
            self.need(len(kinds) - row[1] >= depth)
            self.meet(target, kinds[:depth] + ("handled",), None)
        base = kinds[:len(kinds) - row[1]] + tuple([LETTERS[letter] for letter in row[2]])
        if word in PARTING:
            self.part(at, kinds, base, inlined)
        elif word in ("leave", "cut", "hold"):
            self.meet(at + 1, self.changed(instruction, kinds), inlined)
        elif word in ("enter_inline", "leave_inline"):
            self.meet(at + 1, base, instruction[1:] if word == "enter_inline" else None)
        else:
            self.go_on(at, kinds, base, inlined)

    def go_on(self, at, kinds, base, inlined):
        """Note the ways from an instruction that has one target at most."""
        instruction = self.code.instructions[at]
        word = instruction[0]
        if word in JUMPING:
            self.meet(instruction[1], base, inlined)
        elif word in KEEPING:
            self.meet(instruction[-1], kinds, inlined)
        elif word == "fetch":
            self.meet(instruction[1], kinds[:-1], inlined)
        if word not in ENDING:
            self.meet(at + 1, base, inlined)

    def part(self, at, kinds, base, inlined):
        """Note the ways from an instruction that goes on as a block was left."""
        instruction = self.code.instructions[at]
        reasons = kinds[-1][1] if instruction[0] == "end_finally" else kinds[-2][1]
        for reason in reasons:
            if reason == 0 or reason == 4 and instruction[0] == "end_with":
                self.meet(at + 1, base, inlined)
            elif reason == 1:
                self.meet(instruction[1], base + ("value",), inlined)
            elif reason < 4:
                self.meet(instruction[reason], base, inlined)

    def changed(self, instruction, kinds):
        """Return the kinds behind an instruction that cuts the stack or puts a pending way to leave on it."""
        if instruction[0] == "hold":
            return kinds[:-1] + (("pending", (4,)),)
        depth = instruction[1]
        if instruction[0] == "cut":
            self.need(len(kinds) >= depth)
            return kinds[:depth]
        reason = instruction[2]
        self.need(len(kinds) >= depth + (1 if reason == 1 else 0))
        return kinds[:depth] + (("pending", (reason,)),)

    def check_place(self, instruction, inlined):
        """Refuse an instruction that does not fit the inlined function that is open, or that none is."""
        word = instruction[0]
        self.need(word != "yield" or self.code.yields)
        if inlined is None:
            self.need(word != "leave_inline")
            self.need(word not in NAMING or instruction[1] < len(self.code.slots))
            return
        self.need(word not in OUTSIDE)
        self.need(word != "leave_inline" or instruction[1:] == inlined)
        if word in NAMING:
            number, first = inlined
            self.need(first <= instruction[1] < first + len(listed(self.codes[number].slots)))


def joined_kinds(known, kinds):
    """Return the kinds of two ways that meet, with the reasons of both; None if they do not fit."""
    if known == kinds:
        return known
    if len(known) != len(kinds):
        return None
    found = []
    for mine, other in zip(known, kinds):
        if mine[0] == "pending" and other[0] == "pending":
            found.append(("pending", tuple(sorted(set(mine[1]) | set(other[1])))))
        elif mine == other:
            found.append(mine)
        else:
            return None
    return tuple(found)
