"""The frames of the plain reading: names, the values that are held, and the tasks that are left."""

from likerun.errors import Fault
from likerun.values import UNSET

# The tasks that end with an error that goes on, or with another way to leave them, behind their word.
PENDING = ("end_finally", "end_with")


class Frame:
    """A unit that is being run."""

    def __init__(self, unit, local, cells):
        self.unit = unit
        self.line = unit.line
        # The entries of the names that have no cell, and the cells of the others.
        self.local = local
        self.cells = cells
        # The values that unfinished expressions and statements hold, the last one on top.
        self.stack = []
        # What is left to do, the next task last.
        self.agenda = []
        # For a generator the generator; and what is done with what comes of the frame.
        self.owner = None
        self.manner = ("call",)

    def plan(self, tasks):
        """Put tasks before those that are left."""
        self.agenda.extend(tasks[::-1])

    def plan_block(self, statements, tasks):
        """Put statements, and tasks behind them, before the tasks that are left."""
        self.plan([("begin " + statement[0], statement) for statement in statements] + tasks)

    def cut(self, depth):
        """Hold no more values than so many."""
        self.stack = self.stack[:depth]

    def told_names(self):
        """Return the bound names with their values, and the names with cells with their cells."""
        names = [(name, entry) for name, entry in self.local.items() if entry != UNSET]
        return names + list(self.cells.items())

    def entry_of(self, name):
        """Return the cell of a name, or its entry if it has no cell."""
        if name in self.cells:
            return self.cells[name]
        return self.local[name]

    def handled_here(self):
        """Return the error whose handling began last in this frame and is not over; None if there is none."""
        for task in self.agenda[::-1]:
            if task[0] == "handling":
                return task[1]
            if task[0] in PENDING and task[1][0] == "error":
                return task[1][1]
        return None


def new_frame(memory, unit, function, values):
    """Return a frame of a unit, with its parameters bound and its cells made."""
    entries = {name: UNSET for name in unit.slots}
    for name, value in zip(unit.parameters, values):
        entries[name] = value
    local = {name: entry for name, entry in entries.items() if name not in unit.cells}
    cells = {name: memory.make("cell", None, [entries[name]]) for name in unit.cells}
    if function is not None:
        held = memory.slots_of(function)[unit.defaults:]
        for name, cell in zip(unit.free, held):
            cells[name] = cell
    return Frame(unit, local, cells)


def load_name(run, frame, name):
    """Return the value of a name in a frame."""
    if name in frame.cells:
        value = run.memory.slot(frame.cells[name], 0)
    elif name in frame.local:
        value = frame.local[name]
    else:
        return run.load_global(name)
    if value == UNSET:
        raise Fault("NameError", ("text", name))
    return value


def bind_entry(run, frame, name, entry):
    """Give a name in a frame a value, or unset."""
    if name in frame.cells:
        run.memory.set_slot(frame.cells[name], 0, entry)
    elif name in frame.local:
        frame.local[name] = entry
    else:
        run.bindings[name] = entry


def delete_name(run, frame, name):
    """Unbind a name in a frame, which must be bound."""
    if name in frame.cells or name in frame.local:
        load_name(run, frame, name)
        bind_entry(run, frame, name, UNSET)
    else:
        run.delete_global(name)
