"""The plain reading: a run that walks the trees of a program."""

from likerun.calling import leave_by_return
from likerun.control import unwind
from likerun.errors import Fault
from likerun.evaluating import EVALUATING
from likerun.executing import EXECUTING
from likerun.frames import new_frame
from likerun.guarding import GUARDING
from likerun.looping import LOOPING, end_loop
from likerun.memory import Store
from likerun.numbering import is_comp, is_lambda, numbered_bodies
from likerun.raising import raise_new
from likerun.runner import DEPTH, FUEL, ROOM, Runner
from likerun.values import NONE


class Reading(Runner):
    """A run that keeps for each frame the tasks that are left to do."""

    def __init__(self, program, *, inputs=(), room=ROOM, fuel=FUEL, depth=DEPTH):
        Runner.__init__(self, Store(), program.units, inputs, room, fuel, depth)
        self.program = program
        self.bodies = numbered_bodies(program.units)
        # The frames of the generators that are new or waiting, by the addresses of the generators.
        self.asleep = {}

    def fresh(self):
        """Return a new run of the same program with the same options."""
        return Reading(self.program, inputs=self.inputs, room=self.room, fuel=self.fuel, depth=self.depth)

    def work(self):
        """Do the next task of the innermost frame; before the first one the program itself is entered."""
        try:
            if self.frames:
                self.do_task(self.frames[-1])
            else:
                self.enter_unit(0, None, [], ("call",))
        except Fault as fault:
            raise_new(self, fault.name, fault.value)

    def do_task(self, frame):
        """Do the next task of a frame; it returns none when all are done."""
        if not frame.agenda:
            leave_by_return(self, NONE)
            return
        task = frame.agenda.pop()
        action = action_of(task[0])
        action(self, frame, task)

    def make_frame(self, number, function, values):
        """Return a frame of a unit that has its whole body to do."""
        unit = self.units[number]
        body = self.bodies[number]
        frame = new_frame(self.memory, unit, function, values)
        if is_lambda(unit):
            frame.plan([("eval", body), ("body",)])
        elif is_comp(unit):
            frame.plan([("comp", body)])
        else:
            frame.plan_block(body, [])
        return frame

    def enter_unit(self, number, function, values, manner):
        """Add a frame of a unit and take its first step."""
        frame = self.make_frame(number, function, values)
        frame.manner = manner
        self.frames.append(frame)
        self.take_step(frame, frame.line)

    def new_generator(self, number, function, values):
        """Return a new generator of a unit."""
        frame = self.make_frame(number, function, values)
        unit = frame.unit
        names = unit.slots + unit.free
        tag = ("new", unit.name, unit.line, names, ())
        frame.owner = self.memory.make("generator", tag, [frame.entry_of(name) for name in names])
        self.asleep[frame.owner[1]] = frame
        return frame.owner

    def suspend(self, frame):
        """Let a generator wait, the frame of which has been taken off."""
        _, name, _, names, _ = self.memory.tag_of(frame.owner)
        entries = [frame.entry_of(part) for part in names]
        self.memory.change(frame.owner, ("waiting", name, frame.line, names, ()), entries)
        self.asleep[frame.owner[1]] = frame

    def wake(self, generator, manner):
        """Add the frame of a generator that is new or waiting; a new one takes its first step."""
        tag = self.memory.tag_of(generator)
        frame = self.asleep.pop(generator[1])
        frame.manner = manner
        self.memory.change(generator, ("running",) + tag[1:], [])
        self.frames.append(frame)
        if tag[0] == "new":
            self.take_step(frame, frame.line)

    def end_generator(self, generator):
        """Let a generator be at its end."""
        tag = self.memory.tag_of(generator)
        self.memory.change(generator, ("ended",) + tag[1:], [])

    def handle(self, error):
        """Tell whether the innermost frame takes an error, and let it go on with it if it does."""
        return unwind(self.frames[-1], ("error", error))

    def give(self, value):
        """Put a value on top of what the innermost frame holds."""
        self.frames[-1].stack.append(value)

    def give_no_item(self):
        """Tell the innermost frame, which fetches, that there is no item."""
        end_loop(self.frames[-1])


def action_of(word):
    """Return the function that does a task with this word."""
    if word in EVALUATING:
        return EVALUATING[word]
    if word in EXECUTING:
        return EXECUTING[word]
    if word in LOOPING:
        return LOOPING[word]
    return GUARDING[word]
