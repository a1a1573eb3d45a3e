"""The instructions of one unit while they are made: labels stand for indexes that are not yet known."""

from likerun.words import retargeted


class Scope:
    """What a jump out of a block meets: a loop, or a last part that runs before the jump goes on."""

    def __init__(self, last, depth, label):
        # Whether it is a last part; a loop otherwise.
        self.last = last
        # How many entries the stack has for the last part, or behind the loop, and the label there.
        self.depth = depth
        self.label = label
        # For a loop the label of its next step, and how many entries it has there.
        self.again = None
        self.again_depth = depth
        # The reasons for which the last part is reached by a jump.
        self.reasons = {}


class Emitter:
    """Gathers the instructions and the handlers of a unit."""

    def __init__(self, units, unit):
        self.units = units
        self.unit = unit
        self.rows = []
        self.handlers = []
        # The index for each label that has been placed.
        self.spots = {}
        self.labels = 0
        # How many entries the unfinished statements hold, and what stands around the present one.
        self.depth = 0
        self.scopes = []

    def emit(self, row):
        """Put an instruction behind the others."""
        self.rows.append(row)

    def new_label(self):
        """Return a label that is not yet placed."""
        self.labels += 1
        return self.labels - 1

    def place(self, label):
        """Let a label stand for the next instruction."""
        self.spots[label] = len(self.rows)

    def here(self):
        """Return the index of the next instruction."""
        return len(self.rows)

    def protect(self, start, label, depth):
        """Let the errors of the instructions from an index on be taken at a label."""
        self.handlers.append((start, len(self.rows), label, depth))

    def told_rows(self):
        """Return the instructions with indexes for their labels."""
        return tuple([retargeted(row, self.spots) for row in self.rows])

    def told_handlers(self):
        """Return the handlers with indexes for their labels."""
        return tuple([(start, end, self.spots[label], depth) for start, end, label, depth in self.handlers])

    def put_name(self, word, name):
        """Put the instruction that loads, stores or deletes a name."""
        if name in self.unit.cells or name in self.unit.free:
            self.emit((word + "_cell", self.cell_index(name)))
        elif name in self.unit.slots:
            self.emit((word, self.unit.slots.index(name)))
        else:
            self.emit((word + "_global", name))

    def cell_index(self, name):
        """Return the index of the cell of a name."""
        return (self.unit.cells + self.unit.free).index(name)

    def put_function(self, number):
        """Put the instructions that make a function of a unit, the defaults of which are on the stack."""
        for name in self.units[number].free:
            self.emit(("push_cell", self.cell_index(name)))
        self.emit(("make_function", number))

    def cut_to(self, depth):
        """Put the instruction that cuts the stack, if it has more entries."""
        if self.depth > depth:
            self.emit(("cut", depth))

    def put_return(self):
        """Return the value on top, behind the last part around the statement if there is one."""
        for scope in self.scopes[::-1]:
            if scope.last:
                self.leave_for(scope, 1)
                return
        self.emit(("return",))

    def put_jump_out(self, reason):
        """Leave the innermost loop or go on with it, behind the last part around the statement if there is one."""
        scope = self.scopes[-1]
        if scope.last:
            self.leave_for(scope, reason)
        elif reason == 2:
            self.cut_to(scope.depth)
            self.emit(("jump", scope.label))
        else:
            self.cut_to(scope.again_depth)
            self.emit(("jump", scope.again))

    def leave_for(self, scope, reason):
        """Go on with a last part, and note the reason."""
        scope.reasons[reason] = True
        self.emit(("leave", scope.depth, reason))
        self.emit(("jump", scope.label))

    def end_last(self, word, scope):
        """End a last part with an instruction of this word, and let go on what was pending."""
        labels = {reason: self.new_label() for reason in (1, 2, 3) if reason in scope.reasons}
        behind = self.new_label()
        self.emit((word, labels.get(1, -1), labels.get(2, -1), labels.get(3, -1)))
        if labels:
            self.emit(("jump", behind))
        for reason, label in labels.items():
            self.place(label)
            if reason == 1:
                self.put_return()
            else:
                self.put_jump_out(reason)
        self.place(behind)
