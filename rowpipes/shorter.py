"""Shorter pipes, step by step, and how long a pipe is."""

from rowpipes.branches import branches_of
from rowpipes.steps import STEPS, done, looked_at

STORES = ("sort", "both", "meet")


def all_workers(pipe):
    """The workers of the pipe, those in branches too."""
    found = []
    for worker in pipe:
        found.append(worker)
        for branch in branches_of(worker):
            found.extend(all_workers(branch))
    return found


def counted(pipe):
    """How many workers the pipe has, branches too, and how many of them store rows."""
    workers = all_workers(pipe)
    return (len(workers), len([worker for worker in workers if worker[0] in STORES]))


def any_step(kind, pipe):
    """Some step that can be done, with the pipe to which it leads; None if there is none; or Falling, TooMany."""
    known = looked_at(kind, pipe)
    # Rule by rule: those that make the pipe shorter leave less to be moved.
    for rule in STEPS:
        for place in known:
            found = done(kind, pipe, known, (rule, place))
            if found is not None:
                return ((rule, place), found)
    return None


def shorter(kind, pipe):
    """A pipe at which no step can be done, and the steps that lead to it; or NoPipe, Falling, TooMany."""
    steps = []
    reached = pipe
    found = any_step(kind, reached)
    while found is not None:
        step, reached = found
        steps.append(step)
        found = any_step(kind, reached)
    return (reached, steps)
