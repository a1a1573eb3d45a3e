"""How tasks of the plain reading are left: by the end, an error, a return, a break or a continue.

A signal is a tuple ("end",), ("error", error), ("return", value), ("break",) or ("continue",).
"""

from likerun.calling import leave_by_return
from likerun.raising import throw
from likerun.values import NONE


def follow(run, frame, signal):
    """Leave what is under way in a frame in the way of a signal."""
    if signal[0] == "error":
        throw(run, signal[1])
    elif signal[0] != "end" and not unwind(frame, signal):
        # All loops stand in their frame, so only a return leaves it.
        leave_by_return(run, signal[1])


def unwind(frame, signal):
    """Drop the tasks of a frame down to one that takes a signal, and tell whether there is one."""
    while frame.agenda:
        task = frame.agenda.pop()
        if task[0] in TAKING:
            action = TAKING[task[0]]
            if action(frame, task, signal):
                return True
    return False


def take_in_while(frame, task, signal):
    """Take a break or continue in a while statement."""
    if signal[0] not in ("break", "continue"):
        return False
    frame.cut(task[1])
    if signal[0] == "continue":
        frame.plan([task])
    return True


def take_in_for(frame, task, signal):
    """Take a break or continue in a for statement, which holds an iterator until it is left."""
    if signal[0] == "break":
        frame.cut(task[1])
    elif signal[0] == "continue":
        frame.cut(task[1] + 1)
        frame.plan([task])
    else:
        return False
    return True


def take_in_try(frame, task, signal):
    """Take an error in the body of a try statement that has clauses."""
    if signal[0] != "error":
        return False
    error = signal[1]
    frame.cut(task[1])
    frame.plan([("clause", task[2], 0, error), ("handling", error)])
    return True


def take_in_finally(frame, task, signal):
    """Run the last part of a try statement before a signal goes on."""
    frame.cut(task[1])
    frame.plan_block(task[2], [("end_finally", signal)])
    return True


def take_in_with(frame, task, signal):
    """Leave a with statement before a signal goes on."""
    frame.cut(task[1])
    error = signal[1] if signal[0] == "error" else NONE
    frame.plan([("leave_with", task[2], error), ("end_with", signal)])
    return True


TAKING = {
    "while": take_in_while,
    "for": take_in_for,
    "clauses": take_in_try,
    "finally": take_in_finally,
    "with": take_in_with,
}
