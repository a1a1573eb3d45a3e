"""Runs led step by step, and watches over their steps."""

from likerun.errors import BadLevel, BadOption

# How many steps a move takes at most, if nothing else is told.
PATIENCE = 500


class Debugger:
    """Leads a run by steps, and keeps breakpoints."""

    def __init__(self, runner):
        self.runner = runner
        self.marks = {}
        self.moves = []
        self.most = PATIENCE

    def __contains__(self, place):
        """Tell whether a breakpoint is set: a line and the name of a unit, or None for all units."""
        return place in self.marks

    @property
    def patience(self):
        """The number of steps that a move takes at most."""
        return self.most

    @patience.setter
    def patience(self, value):
        """Set the number of steps that a move takes at most."""
        if value < 1:
            raise BadOption("patience")
        self.most = value

    def set_patience(self, n):
        """Set the number of steps that a move takes at most."""
        self.patience = n

    def step(self):
        """Advance to the next step."""
        self.runner.advance()
        return self.note_move("step")

    def over(self):
        """Advance until the run has no more frames than now."""
        self.advance_to(self.count_levels())
        return self.note_move("over")

    def out(self):
        """Advance until the run has fewer frames than now."""
        self.advance_to(self.count_levels() - 1)
        return self.note_move("out")

    def go(self):
        """Advance to the next breakpoint."""
        for _ in range(self.most):
            if not self.runner.advance() or self.is_at_break():
                break
        return self.note_move("go")

    def where(self):
        """Return the name of the unit and the line of each frame."""
        return self.runner.trace

    def count_levels(self):
        """Return the number of frames; a run that has not begun counts as one."""
        return max(1, len(self.where()))

    def advance_to(self, levels):
        """Advance until the run has no more than so many frames."""
        for _ in range(self.most):
            if not self.runner.advance() or len(self.where()) <= levels:
                break

    def is_at_break(self):
        """Tell whether the step at which the run stands is on a breakpoint."""
        unit, line = self.where()[-1]
        return (line, unit) in self.marks or (line, None) in self.marks

    def note_move(self, word):
        """Note a move, and return where it has led."""
        self.moves.append((word, self.where()))
        return self.where()

    def add_break(self, line, unit=None):
        """Set a breakpoint for the units of a name, or for all."""
        self.marks[(line, unit)] = True

    def clear_break(self, line, unit=None):
        """Remove a breakpoint, and tell whether it was set."""
        return self.marks.pop((line, unit), False)

    def breaks(self):
        """Return the breakpoints by line, those for all units before the others, by name."""
        found = []
        for line in sorted(list({place[0]: True for place in self.marks})):
            names = [place[1] for place in self.marks if place[0] == line]
            if None in names:
                found.append((line, None))
            found.extend([(line, name) for name in sorted([name for name in names if name is not None])])
        return found

    def history(self):
        """Return the moves so far, each with where it has led."""
        return list(self.moves)

    def back(self, n):
        """Return a debugger of the same run, so many steps earlier."""
        steps = self.runner.steps
        if n < 0 or n > steps:
            raise BadLevel(n)
        runner = self.runner.fresh()
        for _ in range(steps - n):
            runner.advance()
        debugger = Debugger(runner)
        debugger.marks = {place: True for place in self.marks}
        debugger.most = self.most
        return debugger


class Watch:
    """Collects the steps that a run takes inside a block."""

    def __init__(self, runner):
        self.runner = runner
        self.closed = False
        # How many steps there were before the block, and all steps at its end.
        self.before = None
        self.told = None

    def __enter__(self):
        self.closed = False
        self.before = self.runner.steps
        self.told = None
        return self

    def __exit__(self, kind, value, trace):
        self.closed = True
        self.told = self.runner.stepped + []

    def seen(self):
        """Return the steps that were taken inside the block so far."""
        if self.before is None:
            return []
        told = self.runner.lines if self.told is None else self.told
        return told[self.before:]


def watch_steps(watch, count, *, forbidden=()):
    """Take so many steps in a block of a watch; a step on a forbidden line raises BadLevel."""
    with watch:
        for _ in range(count):
            steps = watch.runner.steps
            watch.runner.advance()
            if watch.runner.steps == steps:
                break
            line = watch.runner.stepped[-1][1]
            if line in forbidden:
                raise BadLevel(line)
