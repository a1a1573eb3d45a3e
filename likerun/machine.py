"""The machine: a run that executes codes, and keeps its objects in a heap."""

from likerun.acting import ACTING
from likerun.activation import Activation, waking_frame
from likerun.checker import check_code
from likerun.errors import Fault, MachineFault
from likerun.forms import is_instruction
from likerun.heap import Heap
from likerun.making import MAKING
from likerun.moving import MOVING
from likerun.options import check_schedule
from likerun.raising import raise_new
from likerun.runner import DEPTH, FUEL, ROOM, Runner
from likerun.values import UNSET


class Machine(Runner):
    """A run that executes one instruction in each tick."""

    def __init__(self, compiled, *, inputs=(), room=ROOM, fuel=FUEL, depth=DEPTH, schedule=()):
        # The states before the instructions, which loading asks for.
        self.shapes = check_code(compiled)
        Runner.__init__(self, Heap(), compiled.codes, inputs, room, fuel, depth)
        check_schedule(schedule)
        self.compiled = compiled
        self.heap = self.memory
        self.schedule = list(schedule)
        self.ticks = 0
        self.actions = dict(MOVING)
        self.actions.update(dict(MAKING))
        self.actions.update(dict(ACTING))
        # The instructions that have been executed, which have their forms.
        self.known = {}

    def fresh(self):
        """Return a new run of the same codes with the same options."""
        return Machine(
            self.compiled, inputs=self.inputs, room=self.room, fuel=self.fuel, depth=self.depth, schedule=self.schedule)

    def work(self):
        """Do the next tick."""
        self.tick()

    def tick(self):
        """Execute the next instruction, or enter the program, and return True; return False after the end."""
        if self.ending is not None:
            return False
        if self.ticks > 0 and self.schedule:
            word = self.schedule[self.ticks % len(self.schedule)]
            if word > 0:
                self.collect(word == 2)
        self.ticks += 1
        try:
            if self.frames:
                self.execute(self.frames[-1])
            else:
                self.enter_unit(0, None, [], ("call",))
        except Fault as fault:
            raise_new(self, fault.name, fault.value)
        return True

    def execute(self, frame):
        """Execute the next instruction of a frame."""
        rows = frame.unit.instructions
        if not 0 <= frame.at < len(rows):
            raise MachineFault("an instruction that is not there")
        instruction = rows[frame.at]
        place = (frame.number, frame.at)
        # Codes that were checked have these forms; the question is for those that were not.
        if self.known.get(place) != instruction:
            if not is_instruction(self.units, frame.unit, instruction):
                raise MachineFault("an instruction without a form")
            self.known[place] = instruction
        frame.at += 1
        action = self.actions[instruction[0]]
        action(self, frame, instruction)

    def collect(self, full=False):
        """Let the heap forget what the run does not hold."""
        entries = self.heap.collect(self.held(), full)
        at = 0
        for name in sorted(list(self.bindings)):
            self.bindings[name] = entries[at]
            at += 1
        for frame in self.frames:
            many = len(frame.held_entries())
            frame.hold_again(entries[at:at + many])
            at += many

    def held(self):
        """Return the entries of all that the run holds."""
        entries = [self.bindings[name] for name in sorted(list(self.bindings))]
        for frame in self.frames:
            entries.extend(frame.held_entries())
        return entries

    def places(self):
        """Return the name of the unit and the line of each frame, inlined functions included."""
        found = []
        for frame in self.frames:
            found.append((frame.unit.name, frame.line))
            if frame.inlined is not None:
                found.append((frame.inlined.unit.name, frame.inlined.line))
        return tuple(found)

    def levels(self):
        """Return the name of the unit, the line and the names with their entries for each frame."""
        found = []
        for frame in self.frames:
            found.append((frame.unit.name, frame.line, frame.told_names()))
            inner = frame.inlined
            if inner is not None:
                found.append((inner.unit.name, inner.line, frame.inlined_names()))
        return found

    def count_frames(self):
        """Return the number of frames, inlined functions included."""
        return len(self.frames) + len([frame for frame in self.frames if frame.inlined is not None])

    def make_frame(self, number, function, values):
        """Return a frame of a unit, with its parameters bound and its cells made."""
        if number >= len(self.units):
            raise MachineFault("a unit that is not there")
        unit = self.units[number]
        entries = dict(zip(unit.parameters, values))
        slots = [UNSET if name in unit.cells else entries.get(name, UNSET) for name in unit.slots]
        cells = [self.memory.make("cell", None, [entries.get(name, UNSET)]) for name in unit.cells]
        if function is not None:
            cells.extend(self.memory.slots_of(function)[unit.defaults:])
        return Activation(number, unit, slots + [UNSET] * unit.extra, cells)

    def enter_unit(self, number, function, values, manner):
        """Add a frame of a unit, the first instruction of which takes its step."""
        frame = self.make_frame(number, function, values)
        frame.manner = manner
        self.frames.append(frame)

    def new_generator(self, number, function, values):
        """Return a new generator of a unit."""
        frame = self.make_frame(number, function, values)
        unit = frame.unit
        tag = ("new", unit.name, unit.line, unit.slots + unit.free, frame.kept_state())
        return self.memory.make("generator", tag, frame.kept_entries())

    def suspend(self, frame):
        """Let a generator wait, the frame of which has been taken off."""
        _, name, _, names, _ = self.memory.tag_of(frame.owner)
        tag = ("waiting", name, frame.line, names, frame.kept_state())
        self.memory.change(frame.owner, tag, frame.kept_entries())

    def wake(self, generator, manner):
        """Add the frame of a generator that is new or waiting."""
        tag = self.memory.tag_of(generator)
        frame = waking_frame(self.units, tag, self.memory.slots_of(generator))
        frame.owner = generator
        frame.manner = manner
        self.set_state(generator, "running")
        self.frames.append(frame)

    def end_generator(self, generator):
        """Let a generator be at its end."""
        self.set_state(generator, "ended")

    def set_state(self, generator, state):
        """Let a generator be running or at its end; it keeps its line and the number of its unit."""
        _, name, line, names, rest = self.memory.tag_of(generator)
        self.memory.change(generator, (state, name, line, names, (rest[0], 0, "")), [])

    def handle(self, error):
        """Tell whether the innermost frame takes an error, and let it go on with it if it does."""
        frame = self.frames[-1]
        frame.close_inlined()
        at = frame.at - 1
        for start, end, target, depth in frame.unit.handlers:
            if start <= at < end:
                frame.cut(depth)
                frame.push(("handled", error[1]))
                frame.at = target
                return True
        return False

    def give(self, value):
        """Put a value on top of what the innermost frame holds."""
        self.frames[-1].push(value)

    def give_no_item(self):
        """Tell the innermost frame, which fetches, that there is no item."""
        frame = self.frames[-1]
        frame.take_mark("iterator")
        frame.at = frame.unit.instructions[frame.at - 1][1]
