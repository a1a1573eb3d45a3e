"""Whole runs of source texts, in every way of running."""

from likerun.compiler import compile_program
from likerun.errors import BadOption
from likerun.machine import Machine
from likerun.optimiser import optimise
from likerun.reading import Reading
from likerun.runner import DEPTH, FUEL, ROOM
from likerun.saving import load, save
from likerun.scopes import read_program

# After how many ticks a run is saved and loaded.
SAVING = 25


def run_text(text, *, way="plain", passes=(), inputs=(), room=ROOM, fuel=FUEL, depth=DEPTH, schedule=()):
    """Return the report of the whole run of a text: by the plain reading, by the machine, or with saving between."""
    if way not in ("plain", "code", "saved"):
        raise BadOption("way")
    program = read_program(text)
    if way == "plain":
        run = Reading(program, inputs=inputs, room=room, fuel=fuel, depth=depth)
    else:
        compiled, _ = optimise(compile_program(program), passes)
        run = Machine(compiled, inputs=inputs, room=room, fuel=fuel, depth=depth, schedule=schedule)
        if way == "saved":
            run = carried_on(run, schedule)
    run.finish()
    return run.report()


def carried_on(machine, schedule):
    """Run a machine to its end, saved and loaded again and again."""
    while machine.end is None:
        for _ in range(SAVING):
            machine.tick()
        machine = load(save(machine), schedule=schedule)
    return machine
