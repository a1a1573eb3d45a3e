"""Programs: trees divided into units, and what the names in them mean."""

from likerun.errors import BadScope
from likerun.survey import survey_tree
from likerun.trees import read_tree


class Unit:
    """The whole program, a function or lambda, or a comprehension."""

    def __init__(self, draft, cells, free):
        self.name = draft.name
        self.line = draft.line
        self.parameters = draft.parameters
        self.defaults = draft.defaults
        self.slots = draft.slots
        self.cells = cells
        self.free = free
        self.yields = draft.yields
        self.outer = draft.outer
        self.body = draft.body
        # The declared names with the word that declares them: they decide what names in units inside mean.
        self.declared = draft.declared


class Program:
    """A tree and its units."""

    def __init__(self, tree, units):
        self.tree = tree
        self.units = units

    @staticmethod
    def read(text):
        """Read a program from a source text."""
        return read_program(text)


def read_program(text):
    """Read a program from a source text."""
    tree = read_tree(text)
    survey = survey_tree(tree)
    faults = survey.fault_lines + lost_lines(survey)
    if faults:
        raise BadScope(min(faults), 0)
    return Program(tree, make_units(survey.drafts))


def lost_lines(survey):
    """Return the lines of nonlocal declarations whose names no enclosing unit has."""
    return [line for unit, name, line in survey.nonlocals if find_meaning(survey.drafts, unit, name) != "free"]


def meaning(program, unit, name):
    """Tell what a name means in the unit of this number: "local", "free" or "global"."""
    return find_meaning(program.units, unit, name)


def find_meaning(units, number, name):
    """Tell what a name means in one of the units, or of their drafts."""
    unit = units[number]
    if name in unit.slots:
        return "local"
    if number == 0 or unit.declared.get(name) == "global":
        return "global"
    outer = unit.outer
    while outer != 0:
        unit = units[outer]
        if name in unit.slots or unit.declared.get(name) == "nonlocal":
            return "free"
        if name in unit.declared:
            return "global"
        outer = unit.outer
    return "global"


def make_units(drafts):
    """Return the units of the drafts in a tuple."""
    # What the units directly inside each unit need of it; a unit inside has the greater number.
    needed = [{} for _ in drafts]
    found = []
    for number in reversed(range(len(drafts))):
        draft = drafts[number]
        cells = tuple([name for name in draft.slots if name in needed[number]])
        free = {name: True for name in draft.occurring if find_meaning(drafts, number, name) == "free"}
        for name in needed[number]:
            if name not in draft.slots:
                free[name] = True
        if number > 0:
            needed[draft.outer].update(free)
        found.append(Unit(draft, cells, tuple(sorted(free))))
    found.reverse()
    return tuple(found)
