"""The codes of units, and their texts."""

from likerun.datum import read_datum, write_datum
from likerun.errors import BadCode
from likerun.forms import is_formed

# How many fields a code has, and how deep one of them may be nested in a note of all.
FIELD_MANY = 11
FIELD_DEPTH = 58


class Code:
    """The code of one unit; its fields are kept as they are given."""

    def __init__(self, name, line, instructions, *, parameters=(), defaults=0, slots=(), cells=(), free=(),
                 yields=False, extra=0, handlers=()):
        self.name = name
        self.line = line
        self.instructions = instructions
        self.parameters = parameters
        self.defaults = defaults
        self.slots = slots
        self.cells = cells
        self.free = free
        self.yields = yields
        # The number of further slots, behind the others, for inlined functions.
        self.extra = extra
        # The first (start, end, target, depth) whose range has an instruction takes its errors.
        self.handlers = handlers

    def __eq__(self, other):
        """Tell whether all fields are equal."""
        return (
            isinstance(other, Code) and self.name == other.name and self.line == other.line
            and self.instructions == other.instructions and self.parameters == other.parameters
            and self.defaults == other.defaults and self.slots == other.slots and self.cells == other.cells
            and self.free == other.free and self.yields == other.yields and self.extra == other.extra
            and self.handlers == other.handlers)

    def __len__(self):
        """Return the number of instructions."""
        return len(self.instructions)


class Compiled:
    """The codes of all units of a program."""

    def __init__(self, codes):
        self.codes = tuple(codes)

    def __eq__(self, other):
        """Tell whether all codes are equal."""
        return isinstance(other, Compiled) and self.codes == other.codes

    def __len__(self):
        """Return the number of codes."""
        return len(self.codes)


def fields_of(code):
    """Return the fields of a code in a tuple."""
    return (
        code.name, code.line, code.instructions, code.parameters, code.defaults, code.slots, code.cells, code.free,
        code.yields, code.extra, code.handlers)


def code_of(fields):
    """Return the code that has these fields; one with empty fields for what are no fields of a code."""
    if not has_code_form(fields):
        return Code("", 0, ())
    name, line, instructions, parameters, defaults, slots, cells, free, yields, extra, handlers = fields
    return Code(
        name, line, instructions, parameters=parameters, defaults=defaults, slots=slots, cells=cells, free=free,
        yields=yields, extra=extra, handlers=handlers)


def has_code_form(fields):
    """Tell whether a datum has as many parts as a code has fields."""
    return isinstance(fields, tuple) and len(fields) == FIELD_MANY


def write_code(compiled):
    """Write codes as one line."""
    return write_datum(tuple([tuple([noted(field) for field in fields_of(code)]) for code in compiled.codes]))


def noted(field):
    """Return a field as a part of a note; one that is nested deeper than any form is told by a string."""
    if depth_of(field) <= FIELD_DEPTH:
        return field
    # No field has this form, so what is read again is refused.
    return (None, write_datum(field))


def depth_of(datum):
    """Return how deep a datum is nested."""
    if not isinstance(datum, tuple):
        return 0
    return 1 + max([depth_of(item) for item in datum], default=0)


def read_code(text):
    """Read what write_code writes for codes whose fields and instructions have their forms."""
    return compiled_of(read_datum(text))


def compiled_of(datum):
    """Return the codes for a datum; a part of it that has not the form of a code raises BadCode."""
    if not isinstance(datum, tuple) or len(datum) == 0:
        raise BadCode(0)
    codes = [code_of(fields) for fields in datum]
    for number in range(len(codes)):
        # A part that is no tuple of fields has no instructions here, so it has not the form of a code.
        if not is_formed(codes, number):
            raise BadCode(number)
    return Compiled(codes)
