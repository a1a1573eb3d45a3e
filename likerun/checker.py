"""The checker: which codes are accepted, and the states before their instructions."""

from likerun.errors import BadCode
from likerun.forms import is_formed
from likerun.shaping import Shaper
from likerun.words import targets_of


def check_code(compiled):
    """Return for each unit the states before its instructions; a code that breaks a rule raises BadCode."""
    codes = compiled.codes
    if not codes:
        raise BadCode(0)
    return tuple([check_unit(codes, number) for number in range(len(codes))])


def check_unit(codes, number):
    """Return the states before the instructions of a unit; BadCode is raised if its code breaks a rule."""
    code = codes[number]
    if not is_formed(codes, number) or not is_placed(code):
        raise BadCode(number)
    return Shaper(codes, number).work_out()


def is_placed(code):
    """Tell whether the targets and handlers of a code lie where they may."""
    rows = code.instructions
    if rows[0][0] != "line":
        return False
    for at, instruction in enumerate(rows):
        for target in targets_of(instruction):
            if target <= at and rows[target][0] != "line":
                return False
    return all([0 <= start < end <= target < len(rows) and depth >= 0 for start, end, target, depth in code.handlers])
