"""The plain reading of statements that guard what stands in them: try and with."""

from likerun.calling import call_enter, call_leave
from likerun.control import follow
from likerun.evaluating import pop_many
from likerun.frames import bind_entry
from likerun.raising import takes_error, throw
from likerun.values import NONE, is_true


def begin_try(run, frame, task):
    """Begin with the body of a try statement."""
    _, _, body, clauses, other, final = task[1]
    depth = len(frame.stack)
    marks = []
    if clauses:
        marks.append(("clauses", depth, clauses, other))
    if final:
        marks.append(("finally", depth, final))
    frame.plan_block(body, marks)


def pass_clauses(run, frame, task):
    """Go on with the else part of a try statement, the body of which has come to its end."""
    frame.plan_block(task[3], [])


def try_clause(run, frame, task):
    """Begin with a clause, if there is one left that may take the error."""
    _, clauses, at, error = task
    if at == len(clauses):
        throw(run, error)
        return
    line, a, _, body = clauses[at]
    run.take_step(frame, line)
    if a is None:
        frame.plan_block(body, [])
    else:
        frame.plan([("eval", a), ("match", clauses, at, error)])


def match_clause(run, frame, task):
    """Go on with the block of a clause if it takes the error, or with the next clause."""
    _, clauses, at, error = task
    _, _, name, body = clauses[at]
    if not takes_error(run.memory, frame.stack.pop(), error):
        frame.plan([("clause", clauses, at + 1, error)])
        return
    if name is not None:
        bind_entry(run, frame, name, error)
    frame.plan_block(body, [])


def end_handling(run, frame, task):
    """The error behind the word is being handled no more."""


def pass_finally(run, frame, task):
    """Go on with the last part of a try statement, the rest of which has come to its end."""
    frame.plan_block(task[2], [])


def end_finally(run, frame, task):
    """Go on as the rest of the try statement was left."""
    follow(run, frame, task[1])


def begin_with(run, frame, task):
    """Begin with the object of a with statement."""
    statement = task[1]
    run.take_step(frame, statement[1])
    frame.plan([("eval", statement[2]), ("enter_with",), ("with_body", statement)])


def enter_with(run, frame, task):
    """Call what the object on top, which stays there, has for the beginning."""
    call_enter(run, frame.stack[-1])


def begin_with_body(run, frame, task):
    """Bind the result on top, and go on with the body of a with statement."""
    _, line, _, name, body = task[1]
    result = frame.stack.pop()
    if name is not None:
        bind_entry(run, frame, name, result)
    frame.plan_block(body, [("with", len(frame.stack), line)])


def pass_with(run, frame, task):
    """Leave the body of a with statement, which has come to its end."""
    frame.plan([("leave_with", task[2], NONE), ("end_with", ("end",))])


def step_with(run, frame, task):
    """Take the step before the call at the end of a with statement."""
    run.take_step(frame, task[1])
    frame.plan([("call_leave", task[2])])


def finish_with(run, frame, task):
    """Call what the object on top, which stays there, has for the end."""
    call_leave(run, frame.stack[-1], task[1])


def end_with(run, frame, task):
    """Go on as the body was left, unless that was an error and the result on top drops it."""
    _, result = pop_many(frame, 2)
    signal = task[1]
    if signal[0] != "error" or not is_true(run.memory, result):
        follow(run, frame, signal)


GUARDING = {
    "begin try": begin_try,
    "begin with": begin_with,
    "clauses": pass_clauses,
    "clause": try_clause,
    "match": match_clause,
    "handling": end_handling,
    "finally": pass_finally,
    "end_finally": end_finally,
    "enter_with": enter_with,
    "with_body": begin_with_body,
    "with": pass_with,
    "leave_with": step_with,
    "call_leave": finish_with,
    "end_with": end_with,
}
