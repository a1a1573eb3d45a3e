"""What all runs have: steps, global names, pictures and ends."""

from likerun.errors import BadLevel, Fault
from likerun.options import check_options
from likerun.pictures import draw, measure
from likerun.values import builtin_value

# What the room, the fuel and the depth of a run are if they are left out.
ROOM = 10000
FUEL = 2000
DEPTH = 24


class Runner:
    """A run of a program. Its subclasses tell how the program is kept and how it goes on."""

    def __init__(self, memory, units, inputs, room, fuel, depth):
        check_options(inputs, room, fuel, depth)
        self.memory = memory
        self.units = units
        self.inputs = list(inputs)
        self.taken = 0
        self.room = room
        self.fuel = fuel
        self.depth = depth
        self.printed = []
        self.stepped = []
        self.ending = None
        self.bindings = {}
        self.frames = []

    @property
    def prints(self):
        """The lines that the run has printed."""
        return list(self.printed)

    @property
    def lines(self):
        """The name of the unit and the line of each step."""
        return list(self.stepped)

    @property
    def steps(self):
        """The number of steps."""
        return len(self.stepped)

    @property
    def end(self):
        """The end of the run; None while it goes on."""
        return self.ending

    @property
    def trace(self):
        """The name of the unit and the line of each frame, the outermost first."""
        return self.places()

    def work(self):
        """Do the next thing of the run, which may take one step at most."""
        raise NotImplementedError("each way of running has its own")

    def places(self):
        """Return the name of the unit and the line of each frame."""
        return tuple([(frame.unit.name, frame.line) for frame in self.frames])

    def levels(self):
        """Return the name of the unit, the line and the names with their entries for each frame."""
        return [(frame.unit.name, frame.line, frame.told_names()) for frame in self.frames]

    def advance(self):
        """Run to the next step and tell whether the run goes on there."""
        many = len(self.stepped)
        while self.ending is None and len(self.stepped) == many:
            self.work()
        return self.ending is None

    def finish(self):
        """Run to the end and return it."""
        while self.ending is None:
            self.work()
        return self.ending

    def walk(self):
        """Yield the name of the unit and the line of each further step when it has been taken."""
        at = len(self.stepped)
        while at < len(self.stepped) or self.ending is None:
            if at < len(self.stepped):
                at += 1
                yield self.stepped[at - 1]
            else:
                self.advance()

    def take_step(self, frame, line):
        """Take a step with a line in the innermost frame, unless the fuel is used up."""
        frame.line = line
        if len(self.stepped) == self.fuel:
            self.ending = ("steps",)
            return
        self.stepped.append((frame.unit.name, line))
        if self.room_used() > self.room:
            self.ending = ("room",)

    def room_used(self):
        """Return the measure of the names."""
        entries = list(self.bindings.values())
        for _, _, names in self.levels():
            entries.extend([entry for _, entry in names])
        return measure(self.memory, entries)

    def groups(self):
        """Return the heads of a picture, each with its names and their entries, in ascending order."""
        found = [("globals", sorted_names(list(self.bindings.items())))]
        for name, line, names in self.levels():
            found.append(("frame " + name + " line " + str(line), sorted_names(names)))
        return found

    def drawn(self):
        """Return the heads of a picture, each with its names and their words, and the rows of the objects."""
        groups = self.groups()
        shown, rows = draw(self.memory, [row for _, names in groups for row in names])
        found = []
        at = 0
        for head, names in groups:
            found.append((head, shown[at:at + len(names)]))
            at += len(names)
        return found, rows

    def picture(self):
        """Return the names and the objects of the run as they are at the moment."""
        groups, rows = self.drawn()
        found = []
        for head, words in groups:
            found.append(head)
            found.extend(["  " + name + " = " + word for name, word in words])
        return "\n".join(found + ["objects"] + ["  " + row for row in rows])

    def names(self, level):
        """Return the names of a frame with their words in the picture."""
        groups, _ = self.drawn()
        if level < 0 or level + 1 >= len(groups):
            raise BadLevel(level)
        return groups[level + 1][1]

    def report(self):
        """Return what the run has printed, its end and its steps."""
        return tuple(self.printed), self.ending, tuple(self.stepped)

    def count_frames(self):
        """Return the number of frames."""
        return len(self.frames)

    def load_global(self, name):
        """Return the value of a global name, or what it stands for if it is not bound."""
        value = self.bindings.get(name)
        if value is None:
            value = builtin_value(name)
        if value is None:
            raise Fault("NameError", ("text", name))
        return value

    def delete_global(self, name):
        """Unbind a global name."""
        if name not in self.bindings:
            raise Fault("NameError", ("text", name))
        del self.bindings[name]


def sorted_names(names):
    """Return names with their entries in ascending order of the names."""
    table = dict(names)
    return [(name, table[name]) for name in sorted(list(table))]
