"""The frames of a saved run: whether they are such as a run can have."""

from likerun.activation import Activation, Inlined, kind_letter, told_entry
from likerun.effects import count_values
from likerun.forms import is_natural
from likerun.options import is_between
from likerun.saved_objects import is_reference, is_saved_entry, is_tuple, letters_of, need
from likerun.values import UNSET, is_kind

# The instructions that wait for another frame.
WAITING = ("call", "fetch", "enter_with", "call_leave")
# How many arguments the calls have that resume a generator.
RESUMING = {"next": 1, "send": 1, "close": 0}


def restored_frames(vetting, frames):
    """Return the frames for the frames of a saved run."""
    need(isinstance(frames, tuple))
    found = []
    for number, saved in enumerate(frames):
        frame = restored_frame(vetting, saved)
        at = frame.at if number == len(frames) - 1 else frame.at - 1
        ask_stack(vetting, frame, at, saved[8])
        if number > 0:
            need(may_make(vetting, found[-1], frame))
        found.append(frame)
    if found:
        need(found[0].number == 0 and found[0].manner == ("call",))
    ask_owners(vetting, found)
    return found


def restored_frame(vetting, saved):
    """Return the frame for one of a saved run, the stack of which is not yet asked for its kinds."""
    need(is_tuple(saved, 9))
    number, at, line, slots, cells, stack, owner, manner, _ = saved
    many = len(vetting.table)
    need(is_between(number, 0, len(vetting.units) - 1) and is_natural(line))
    unit = vetting.units[number]
    need(is_between(at, 0, len(unit.instructions) - 1))
    need(is_tuple(slots, len(unit.slots) + unit.extra) and is_tuple(cells, len(unit.cells) + len(unit.free)))
    need(all([is_saved_entry(entry, many) for entry in slots + cells]))
    need(isinstance(stack, tuple) and all([is_stacked(entry, many) for entry in stack]))
    frame = Activation(
        number, unit, [vetting.renumbered(entry) for entry in slots], [vetting.renumbered(entry) for entry in cells])
    need(all([vetting.is_free(entry) for entry in frame.slots]))
    need(all([is_kind(vetting.heap, entry, "cell") for entry in frame.cells]))
    frame.stack = [vetting.renumbered(entry) for entry in stack]
    frame.at = at
    frame.line = line
    need(is_reference(owner, many) if unit.yields else owner is None)
    if owner is not None:
        frame.owner = vetting.renumbered(owner)
    frame.manner = restored_manner(vetting, manner)
    return frame


def is_stacked(entry, many):
    """Tell whether an entry may stand on a stack, where there are so many objects."""
    if is_tuple(entry, 2) and entry[0] in ("iterator", "cell"):
        return is_between(entry[1], 0, many - 1)
    return is_saved_entry(entry, many)


def restored_manner(vetting, manner):
    """Return what is done with what comes of a frame."""
    many = len(vetting.table)
    need(isinstance(manner, tuple) and 1 <= len(manner) <= 2)
    need(manner[0] in ("call", "init", "fetch", "next", "send", "close"))
    need(len(manner) == 2 if manner[0] == "init" else len(manner) == 1 or manner[0] == "next")
    entries = []
    for entry in manner[1:]:
        need(is_saved_entry(entry, many))
        entries.append(vetting.renumbered(entry))
        need(vetting.fits(entries[0], "value"))
    need(manner[0] != "init" or is_kind(vetting.heap, entries[0], "instance"))
    return (manner[0],) + tuple(entries)


def ask_stack(vetting, frame, at, inlined):
    """Refuse a frame whose stack and further slots do not fit the state before an instruction."""
    need(at >= 0)
    state = vetting.shapes[frame.number][at]
    need(state is not None)
    kinds, inner = state
    if at < frame.at:
        need(frame.unit.instructions[at][0] in WAITING)
        kinds = waiting_kinds(vetting, frame.unit.instructions[at], kinds)
    need("".join([kind_letter(entry) for entry in frame.stack]) == letters_of(kinds))
    need(vetting.fit_all([told_entry(entry) for entry in frame.stack], kinds))
    first = behind = 0
    if inner is None:
        need(inlined is None)
    else:
        need(is_natural(inlined))
        number, first = inner
        function = Inlined(number, vetting.units[number], first)
        function.line = inlined
        frame.inlined = function
        behind = first + len(vetting.units[number].slots)
    for place in range(len(frame.unit.slots), len(frame.slots)):
        need(first <= place < behind or frame.slots[place] == UNSET)


def waiting_kinds(vetting, instruction, kinds):
    """Return the kinds on the stack while an instruction waits for another frame."""
    if instruction[0] == "call":
        return kinds[:len(kinds) - count_values(vetting.units, instruction)]
    return kinds


def may_make(vetting, below, frame):
    """Tell whether the instruction that waits in the frame below can have made a frame."""
    instruction = below.unit.instructions[below.at - 1]
    word = instruction[0]
    manner = frame.manner
    if word == "fetch":
        return manner == ("fetch",) and frame.owner is not None and below.stack[-1][1] == frame.owner[1]
    if frame.owner is None:
        if word == "call":
            return manner[0] in ("call", "init")
        return manner == ("call",)
    if word != "call" or manner[0] not in RESUMING or instruction[2] != ():
        return False
    return instruction[1] == RESUMING[manner[0]] + len(manner) - 1


def ask_owners(vetting, frames):
    """Refuse running generators that are not the owners of exactly one frame."""
    owners = {}
    for frame in frames:
        if frame.owner is not None:
            need(is_kind(vetting.heap, frame.owner, "generator") and frame.owner not in owners)
            tag = vetting.heap.tag_of(frame.owner)
            need(tag[0] == "running" and tag[4][0] == frame.number)
            owners[frame.owner] = True
    for value in vetting.references():
        if vetting.heap.kind_of(value) == "generator" and vetting.heap.tag_of(value)[0] == "running":
            need(value in owners)
