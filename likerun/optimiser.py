"""The optimiser: passes that apply papers."""

from likerun.checker import check_code, check_unit
from likerun.code import Compiled
from likerun.errors import BadCode, UnknownPass
from likerun.papers import changed_code, is_paper, next_rows, with_code
from likerun.splicing import all_targets

PASSES = ("fold", "branch", "thread", "dead", "copies", "tidy", "inline")
# How many calls a pass inlines in each unit at most.
INLINE_MANY = 8
ARGUMENTS = {"push": True, "load": True, "load_global": True}


class Workshop:
    """Codes that are being changed, and the papers that were applied."""

    def __init__(self, codes):
        self.codes = codes
        self.papers = []

    def rows_of(self, number):
        """Return the instructions of a unit."""
        return self.codes[number].instructions

    def apply(self, paper):
        """Apply a paper that needs no states, and tell whether it is accepted."""
        code = changed_code(self.codes, (), paper)
        # The checker would refuse nothing else of what these papers make of accepted codes.
        if code is None or not has_targets(code):
            return False
        self.note(paper, code)
        return True

    def note(self, paper, code):
        """Note an accepted paper and the code that it makes."""
        self.codes = with_code(self.codes, paper[1], code)
        self.papers.append(paper)


def has_targets(code):
    """Tell whether all targets of a code are there."""
    return max(all_targets(code), default=0) < len(code.instructions)


def optimise(compiled, passes):
    """Return the codes that passes make of codes, and the papers that they apply."""
    for word in passes:
        if word not in PASSES:
            raise UnknownPass(word)
    if len(passes) == 0:
        return compiled, ()
    check_code(compiled)
    shop = Workshop(compiled.codes)
    for word in passes:
        for number in range(len(shop.codes)):
            run_pass(shop, word, number)
    return Compiled(shop.codes), tuple(shop.papers)


def run_pass(shop, word, number):
    """Let a pass change one unit."""
    if word == "thread":
        thread_unit(shop, number)
    elif word == "dead":
        bury_unit(shop, number)
    elif word == "copies":
        copy_unit(shop, number)
    elif word == "inline":
        inline_unit(shop, number)
    else:
        changing = True
        while changing:
            changing = shrink_unit(shop, word, number)


def shrink_unit(shop, word, number):
    """Apply the papers of a word that make a unit smaller, from its first index to its last; tell whether any was."""
    before = len(shop.papers)
    at = 0
    while at < len(shop.rows_of(number)):
        if shop.apply((word, number, at)):
            # What stands a little before may now fit as well.
            at = max(0, at - 2)
        else:
            at += 1
    return len(shop.papers) > before


def thread_unit(shop, number):
    """Let jumps to jumps go on where those do, the last ones first."""
    for at in reversed(range(len(shop.rows_of(number)))):
        shop.apply(("thread", number, at))


def bury_unit(shop, number):
    """Remove the instructions to which no way leads, if they can be removed."""
    rows = next_rows(shop.codes[number])
    met = {0: True}
    rest = [0]
    while rest:
        at = rest.pop()
        for place in rows[at]:
            # What lies behind the last instruction cannot be followed; the paper is refused then.
            if place == len(rows):
                return
            if place not in met:
                met[place] = True
                rest.append(place)
    if len(met) < len(rows):
        shop.apply(("dead", number, tuple(sorted(list(met)))))


def copy_unit(shop, number):
    """Replace loads by copies; each instruction is changed once at most."""
    changed = {}
    for at in range(len(shop.rows_of(number)) - 1):
        first, second = shop.rows_of(number)[at:at + 2]
        if first[0] == "store":
            copy_store(shop, number, at, changed)
        elif first[0] == "load" and second[0] == "store":
            copy_loads(shop, number, at, changed)


def copy_store(shop, number, at, changed):
    """Replace a load of what has just been stored by a copy."""
    if at not in changed and at + 1 not in changed and shop.apply(("copies", number, at, at + 1)):
        changed[at] = True
        changed[at + 1] = True


def copy_loads(shop, number, at, changed):
    """Replace the loads of a slot that holds the same as the one from which it came."""
    rows = shop.rows_of(number)
    wanted = ("load", rows[at + 1][1])
    for other in range(at + 2, len(rows)):
        # Behind such an instruction no paper is accepted any more.
        if rows[other][0] == "store" and rows[other][1] == wanted[1]:
            return
        if rows[other] == wanted and other not in changed and shop.apply(("copies", number, at, other)):
            changed[other] = True


def inline_unit(shop, number):
    """Replace calls of functions that can be told by their names."""
    states = check_unit(shop.codes, number)
    left = INLINE_MANY
    at = 0
    while at < len(shop.rows_of(number)) and left > 0:
        callee = told_callee(shop, number, at)
        after = None
        if callee is not None:
            after = inlined_states(shop, states, ("inline", number, at, callee))
        if after is not None:
            at += len(after) - len(states)
            states = after
            left -= 1
        at += 1


def inlined_states(shop, states, paper):
    """Apply a paper that inlines a call, and return the new states of the unit; None if it is refused."""
    if not is_paper(shop.codes, paper):
        return None
    code = changed_code(shop.codes, states, paper)
    if code is None:
        return None
    try:
        after = check_unit(with_code(shop.codes, paper[1], code), paper[1])
    except BadCode:
        return None
    shop.note(paper, code)
    return after


def told_callee(shop, number, at):
    """Return the number of the one unit that a call of a global name may mean; None if it cannot be told."""
    rows = shop.rows_of(number)
    if rows[at][0] != "call" or rows[at][1] >= at:
        return None
    many = rows[at][1]
    function = rows[at - many - 1]
    if function[0] != "load_global" or not all([row[0] in ARGUMENTS for row in rows[at - many:at]]):
        return None
    found = []
    for unit, code in enumerate(shop.codes):
        if code.name == function[1] and len(code.parameters) == many:
            found.append(unit)
    return found[0] if len(found) == 1 else None
